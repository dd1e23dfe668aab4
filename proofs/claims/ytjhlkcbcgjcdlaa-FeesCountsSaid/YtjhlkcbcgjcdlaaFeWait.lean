/-
  The law StrongboxWaited: what is told was waited for. Conditions: the arguments are data.
-/
import Derived.Test.YtjhlkcbcgjcdlaaFeName
import Derived.Test.YtjhlkcbcgjcdlaaFeSum
import Derived.Test.YtjhlkcbcgjcdlaaInts
namespace Go.Proofs.Ytjhlkcbcgjcdlaa
open Go.RowKit

/-- A book of the call's own. -/
def Owned (w w' : World) (c g : Nat) (m : Option Nat) (S : Bs) : Prop := BookAt w' c g m S ∧ Below w.heap.size w w' ∧ w.heap.size ≤ g ∧ ∀ b, m = some b → w.heap.size ≤ b
theorem below_turns {P : Nat → Prop} {a b c : World} (h : Below a.heap.size a b) (ht : Turns P b c) (hP : ∀ i, P i → a.heap.size ≤ i) : Below a.heap.size a c :=
  ⟨ht.os.trans h.os, ht.tape.trans h.tape, ht.output.trans h.output, Nat.le_trans h.size ht.size, fun k hk => (ht.block k (Nat.lt_of_lt_of_le hk h.size) (fun q => by have := hP k q; omega)).trans (h.block k hk)⟩
theorem Owned.drew {w w' : World} {c g : Nat} {m : Option Nat} {S : Bs} (h : Owned w w' c g m S) : Owned w w'.drew c g m S := ⟨h.1.drew, h.2.1.drew, h.2.2⟩
theorem Owned.below {w w' w'' : World} {c g : Nat} {m : Option Nat} {S : Bs} (h : Owned w w' c g m S) (hb : Below w'.heap.size w' w'') : Owned w w'' c g m S := ⟨h.1.below hb, h.2.1.trans (hb.mono h.2.1.size), h.2.2⟩
/-- Behind Enter. -/
theorem Owned.entered {w w1 w2 : World} {c g : Nat} {m : Option Nat} {S S' : Bs} (h : Owned w w1 c g m S) (he : Entered w1 w2 c g m S') : ∃ m', Owned w w2 c g m' S' := by
  obtain ⟨m', hb, ht, hm⟩ := he
  refine ⟨m', hb, below_turns h.2.1 ht (fun i hi => ?_), h.2.2.1, fun b hb => ?_⟩
  · rcases hi with rfl | hi
    · exact h.2.2.1
    · exact h.2.2.2 i hi
  · rcases hm with rfl | ⟨_, b', hb', hl⟩
    · exact h.2.2.2 b hb
    · rw [hb'] at hb
      injection hb with hb
      have := h.2.1.size
      omega
theorem irow_not_book {w : World} {G g : Nat} {t : TypeId} {k : IntKind} {xs : List Int} {m : Option Nat} {A : Nat → Int} {I : Nat → Nat → Int} (h : IRow w G t k xs) (ht : t ≠ 67) (hc : CntAt w g m A I) : G ≠ g := by
  rintro rfl
  obtain ⟨us, hu, _⟩ := hc
  have h1 : w.heap[G]? = _ := hu
  have h2 : w.heap[G]? = _ := h
  rw [h1] at h2
  injection h2 with h2
  injection h2 with _ h2
  exact ht h2.symm
/-- Behind Block. -/
theorem Owned.turned {w w1 w2 : World} {c g : Nat} {m : Option Nat} {S S' : Bs} (h : Owned w w1 c g m S) (hb : BookAt w2 c g m S') (ht : Turns (fun i => i = g ∨ m = some i) w1 w2) : Owned w w2 c g m S' := by
  refine ⟨hb, below_turns h.2.1 ht (fun i hi => ?_), h.2.2⟩
  rcases hi with rfl | hi
  · exact h.2.2.1
  · exact h.2.2.2 i hi

theorem wrap_small {x : Int} (h0 : -9223372036854775808 ≤ x) (h1 : x ≤ 9223372036854775807) : wrap64 x = x := by unfold wrap64; omega
/-- The lowest rate of a bucket. -/
def lowL (k : Nat) : Int := ((1000 * 2 ^ k : Nat) : Int)
theorem lowL_next (k : Nat) : lowL k * 2 = lowL (k + 1) := by unfold lowL; rw [Nat.pow_succ]; omega
theorem lowL_bound {k : Nat} (hk : k < 24) : 0 ≤ lowL k ∧ lowL k * 2 ≤ 1000000000000 := by
  have hp2 : 2 ^ k ≤ 2 ^ 23 := Nat.pow_le_pow_right (by omega) (by omega)
  unfold lowL
  omega
theorem lowL_wrap {k : Nat} (hk : k < 24) : wrap64 (lowL k * 2) = lowL k * 2 := by
  have hp2 : 2 ^ k ≤ 2 ^ 23 := Nat.pow_le_pow_right (by omega) (by omega)
  unfold lowL wrap64
  omega
/-- The sums behind k rounds. -/
def SumAt (S : Bs) (mm s : Nat) (a b l kk : Value) : Prop := ∃ k : Nat, k ≤ 24 ∧ a = .int .i64 (upf S.A mm k) ∧ b = .int .i64 (upf (fun k => S.I k s) mm k) ∧ l = .int .i64 (lowL k) ∧ kk = .int .i64 (k : Int)
theorem meas_plus {n i : Nat} (hi : i < n) : n - (intOf (.int .i64 ((i : Int) + 1))).toNat < n - (intOf (.int .i64 (i : Int))).toNat := by
  simp [intOf]
  omega

set_option maxRecDepth 100000 in
set_option maxHeartbeats 6400000 in
theorem waited_law (v1 v2 : Value) (rs ws : List Int) (t p : Int) (w : World) (h1 : Ints .i64 w w.heap.size v1 rs) (h2 : Ints .i64 w w.heap.size v2 ws) (hr : ∀ x ∈ rs, -9223372036854775808 ≤ x ∧ x ≤ 9223372036854775807)
    (hw : ∀ x ∈ ws, -9223372036854775808 ≤ x ∧ x ≤ 9223372036854775807) (ht1 : -9223372036854775808 ≤ t) (ht2 : t ≤ 9223372036854775807) (hp1 : -9223372036854775808 ≤ p) (hp2 : p ≤ 9223372036854775807) :
    Calls Try.prog 7 #[v1, v2, .agg #[.int .i64 t, .int .i64 p]] w fun e w' => e = .returned (.bool true) ∧ Below w.heap.size w w' := by
  obtain ⟨A1, c1, rfl, l1, m1, _⟩ := id h1
  obtain ⟨A2, c2, rfl, l2, m2, _⟩ := id h2
  have a0 : ∀ o, (w.alloc o).heap[w.heap.size]? = some o := fun o => heap_alloc_new w o
  have x0 : (w.alloc (.cells #[.int .i64 t, .int .i64 p] 53)).drew.cell? ⟨w.heap.size, 0, none⟩ = some (.int .i64 t) := cell_of_row _ _ 0 _ _ _ (a0 _)
  have x1 : (w.alloc (.cells #[.int .i64 t, .int .i64 p] 53)).drew.cell? ⟨w.heap.size, 1, none⟩ = some (.int .i64 p) := cell_of_row _ _ 1 _ _ _ (a0 _)
  have b0 : Below w.heap.size w (w.alloc (.cells #[.int .i64 t, .int .i64 p] 53)).drew := (Below.refl _ w).alloc (Nat.le_refl _) _ |>.drew
  obtain ⟨w1, hw1⟩ : ∃ z, z = w.alloc (.cells #[.int .i64 t, .int .i64 p] 53) := ⟨_, rfl⟩
  obtain ⟨G, hG⟩ : ∃ z, z = w.heap.size := ⟨_, rfl⟩
  rw [← hw1] at x0 x1 b0
  rw [← hG] at x0 x1
  have H1 := Lib.hid h1
  have H2 := Lib.hid h2
  have HR := Lib.hid hr
  have HW := Lib.hid hw
  have HW1 := Lib.hid hw1
  have HG := Lib.hid hG
  have B0 := Lib.hid b0
  clear h1 h2 hr hw a0 hw1 hG b0
  go_enter Try.func7, Try.ntmps7
  go_upto_region 1 with fail
  change Code.wp _ _ _ _ (w.alloc (.cells #[.int .i64 t, .int .i64 p] 53))
  rw [← HW1.out, show w.heap.size = G from HG.out.symm]
  clear HW1
  try dsimp only [Act.put]
  refine wp_region_held_drew (S := (fun w' => w'.cell? ⟨G, 0, none⟩ = some (.int .i64 t) ∧ w'.cell? ⟨G, 1, none⟩ = some (.int .i64 p))) (by kernel_rfl) ?_ (fun hHeld => ?_)
  · exact ⟨x0, x1⟩
  refine wpAnyH_take (i := 0) (oi := { dst := some 18, op := Go.Op.indexAddr 53 (Go.Operand.tmp 5) (Go.Operand.const (Go.Value.int Go.IntKind.i64 0)), type := 0, pos := "top10.go:75", after := #[], guard := none }) (v := ?av0) rfl (by kernel_rfl) (by kernel_rfl) (by kernel_rfl) (fun _ _ _ h => h) (Or.inl ⟨by rfl, ?ay0⟩) (by assumption) ?ar0
  case ay0 => (intro w hSw; (try dsimp only at hSw); go_simp; try (with_reducible rfl))
  case ar0 =>
  try simp only [Act.put, List.setIfInBounds_toArray, List.set_cons_zero, List.set_cons_succ]
  refine wpAnyH_take (i := 1) (oi := { dst := some 19, op := Go.Op.load 3 (Go.Operand.tmp 18), type := 3, pos := "top10.go:75", after := #[{ on := 0, ground := Go.Ground.data }], guard := none }) (v := (.int .i64 t)) rfl (by kernel_rfl) (by kernel_rfl) (by kernel_rfl) (fun _ _ _ h => h) (Or.inl ⟨by rfl, ?ay1⟩) (by assumption) ?ar1
  case ay1 => (intro w hSw; (try dsimp only at hSw); go_simp; try (simp [hSw.1]))
  case ar1 =>
  try simp only [Act.put, List.setIfInBounds_toArray, List.set_cons_zero, List.set_cons_succ]
  refine wpAnyH_take (i := 2) (oi := { dst := some 20, op := Go.Op.indexAddr 53 (Go.Operand.tmp 5) (Go.Operand.const (Go.Value.int Go.IntKind.i64 1)), type := 0, pos := "top10.go:75", after := #[{ on := 4, ground := Go.Ground.gcOnly Go.Departure.lateStores }], guard := none }) (v := ?av2) rfl (by kernel_rfl) (by kernel_rfl) (by kernel_rfl) (fun _ _ _ h => h) (Or.inl ⟨by rfl, ?ay2⟩) (by assumption) ?ar2
  case ay2 => (intro w hSw; (try dsimp only at hSw); go_simp; try (with_reducible rfl))
  case ar2 =>
  try simp only [Act.put, List.setIfInBounds_toArray, List.set_cons_zero, List.set_cons_succ]
  refine wpAnyH_take (i := 3) (oi := { dst := some 21, op := Go.Op.load 3 (Go.Operand.tmp 20), type := 3, pos := "top10.go:75", after := #[{ on := 2, ground := Go.Ground.data }, { on := 4, ground := Go.Ground.gcOnly Go.Departure.lateStores }], guard := none }) (v := (.int .i64 p)) rfl (by kernel_rfl) (by kernel_rfl) (by kernel_rfl) (fun _ _ _ h => h) (Or.inl ⟨by rfl, ?ay3⟩) (by assumption) ?ar3
  case ay3 => (intro w hSw; (try dsimp only at hSw); go_simp; try (simp [hSw.2]))
  case ar3 =>
  try simp only [Act.put, List.setIfInBounds_toArray, List.set_cons_zero, List.set_cons_succ]
  refine wpAnyH_take (i := 4) (oi := { dst := some 7, op := Go.Op.assign (Go.Operand.tmp 19), type := 3, pos := "top10.go:75", after := #[{ on := 1, ground := Go.Ground.data }, { on := 0, ground := Go.Ground.phase }, { on := 1, ground := Go.Ground.phase }, { on := 2, ground := Go.Ground.textOnly Go.Departure.lateStores }, { on := 3, ground := Go.Ground.textOnly Go.Departure.lateStores }], guard := none }) (v := ?av4) rfl (by kernel_rfl) (by kernel_rfl) (by kernel_rfl) (fun _ _ _ h => h) (Or.inl ⟨by rfl, ?ay4⟩) (by assumption) ?ar4
  case ay4 => (intro w hSw; (try dsimp only at hSw); go_simp; try (with_reducible rfl))
  case ar4 =>
  try simp only [Act.put, List.setIfInBounds_toArray, List.set_cons_zero, List.set_cons_succ]
  refine wpAnyH_take (i := 5) (oi := { dst := some 8, op := Go.Op.assign (Go.Operand.tmp 21), type := 3, pos := "top10.go:75", after := #[{ on := 3, ground := Go.Ground.data }, { on := 4, ground := Go.Ground.chain }, { on := 0, ground := Go.Ground.phase }, { on := 1, ground := Go.Ground.phase }, { on := 2, ground := Go.Ground.phase }, { on := 3, ground := Go.Ground.phase }, { on := 4, ground := Go.Ground.phase }], guard := none }) (v := ?av5) rfl (by kernel_rfl) (by kernel_rfl) (by kernel_rfl) (fun _ _ _ h => h) (Or.inl ⟨by rfl, ?ay5⟩) (by assumption) ?ar5
  case ay5 => (intro w hSw; (try dsimp only at hSw); go_simp; try (with_reducible rfl))
  case ar5 =>
  try simp only [Act.put, List.setIfInBounds_toArray, List.set_cons_zero, List.set_cons_succ]
  refine wpAnyH_done (by kernel_rfl) ?_ _
  clear x0 x1
  go_wp2_with fail
  refine (new_any 1 _).mono ?_
  rintro e w2 ⟨rfl, hbk, hbl⟩
  have HO := Lib.hid (show Owned w w2 1 w1.drew.heap.size none bs0 from ⟨hbk, B0.out.trans (hbl.mono B0.out.size), B0.out.size, fun b q => by cases q⟩)
  obtain ⟨g, hg⟩ : ∃ g, g = w1.drew.heap.size := ⟨_, rfl⟩
  rw [← hg] at HO ⊢
  clear hbk hbl hg
  go_wp2_with fail
  go_loopw [10] (fun s wr => ∃ (i : Nat) (m : Option Nat) (S : Bs), i ≤ rs.length ∧ i ≤ 60 ∧ s = .int .i64 i ∧ Owned w wr 1 g m S ∧ Ok i S) (fun s _ => 60 - (intOf s).toNat)
  case atStart => exact ⟨0, none, bs0, Nat.zero_le _, by omega, rfl, HO.out, ok_zero⟩
  case round =>
    obtain ⟨i, m, S, hi, hi60, rfl, hown, hok⟩ := hrel
    by_cases hlt : i < rs.length ∧ i < 60
    · obtain ⟨hl1, hl2⟩ := hlt
      have d1 : decide ((i : Int) < (rs.length : Int)) = true := decide_eq_true (by omega)
      have d2 : decide ((i : Int) < 60) = true := decide_eq_true (by omega)
      have wi : IntKind.u8.wrap (i : Int) = (i : Int) := by rw [IntKind.wrap_u8]; omega
      have wi2 : wrap64 ((i : Int) + 1) = (i : Int) + 1 := by unfold wrap64; omega
      have hb := name_build 1 i
      have hz := zero_hash
      have hs := size_name 1 i
      have hs0 := size_hash (nmI 1 i) rfl
      have hkv : ∀ K, K = nmI 1 i → nmV 1 i = .agg (K.map (Value.int .u8)).toArray := fun K e => by rw [e]; rfl
      obtain ⟨K, hK⟩ : ∃ K, K = nmI 1 i := ⟨_, rfl⟩
      have hkv' := hkv K hK
      have hKl : K.length = 32 := by rw [hK]; rfl
      rw [← hK] at hs hs0
      rw [← hK] at hb
      obtain ⟨ZZ, hZZ⟩ : ∃ ZZ, ZZ = (List.replicate 32 (0 : Int)) := ⟨_, rfl⟩
      have hZl : ZZ.length = 32 := by rw [hZZ]; simp
      rw [← hZZ] at hz
      -- the rate
      obtain ⟨x, hx⟩ : ∃ x, rs[i]? = some x := ⟨_, List.getElem?_eq_getElem hl1⟩
      have hxb := HR.out x (List.mem_of_getElem? hx)
      obtain ⟨A1', c1', e1, _, _, _, hcell1⟩ := H1.out
      injection e1 with e1 e1n e1c
      subst e1 e1c
      obtain ⟨b1, o1, rfl, hb1, hc1⟩ := hcell1 (by rintro rfl; simp at hl1)
      have hx1 := hc1 i x hx
      have HX1 := Lib.hid hx1
      have HB1 := Lib.hid hb1
      have HOK := Lib.hid hok
      have HOWN := Lib.hid hown
      have HKV := Lib.hid hkv'
      have HBD := Lib.hid hb
      have HSZ := Lib.hid hs
      have HS0 := Lib.hid hs0
      have HKL := Lib.hid hKl
      have HZL := Lib.hid hZl
      have HKE := Lib.hid hK
      clear hok hown hx hc1 hcell1 e1n hb hs hs0 hK hkv hkv' hKl hZZ hZl hb1 hx1
      go_upto_region 9 with (first
        | (refine wpList_build_lit rfl 54 _ (.agg (K.map (Value.int .u8)).toArray) rfl (fun W => by (simp only [List.map_toArray, List.map_cons, List.map_nil]; exact HBD.out W)) ?_)
        | (refine wpList_store_irow rfl 54 _ _ rfl (ys := K) rfl rfl (IRow.new _ _ _ ZZ) HSZ.out (by rw [HZL.out, HKL.out]) ?_))
      change Code.wp _ _ _ _ ((wr.alloc (.cells (ZZ.map (Value.int .u8)).toArray 54)).setRow wr.heap.size (K.map (Value.int .u8)).toArray)
      have hr1 : IRow ((wr.alloc (.cells (ZZ.map (Value.int .u8)).toArray 54)).setRow wr.heap.size (K.map (Value.int .u8)).toArray) wr.heap.size 54 .u8 K := irow_setRow_new
      have bb1 : Below wr.heap.size wr ((wr.alloc (.cells (ZZ.map (Value.int .u8)).toArray 54)).setRow wr.heap.size (K.map (Value.int .u8)).toArray) := below_setRow ((Below.refl _ wr).alloc (Nat.le_refl _) _) (Nat.le_refl _) _
      obtain ⟨w3, hw3⟩ : ∃ z, z = ((wr.alloc (.cells (ZZ.map (Value.int .u8)).toArray 54)).setRow wr.heap.size (K.map (Value.int .u8)).toArray) := ⟨_, rfl⟩
      obtain ⟨GK, hGK⟩ : ∃ z, z = wr.heap.size := ⟨_, rfl⟩
      rw [← hw3] at hr1 bb1 ⊢
      rw [← hGK] at hr1 ⊢
      have ho3 := (HOWN.out.below bb1).drew
      have hx3 : w3.drew.cell? ⟨b1, o1 + i, none⟩ = some (.int .i64 x) := (ho3.2.1.cell (p := ⟨b1, _, none⟩) HB1.out).trans HX1.out
      have HO3 := Lib.hid ho3
      have R3 := Lib.hid hr1
      have HX3 := Lib.hid hx3
      have hent := fun W (hbk : BookAt W 1 g m S) => enter_any 1 g i m S x 10 W (.inr rfl) (by omega) hbk (fun e he => (HOK.out.bk e he).2.1) HOK.out.nd hxb.1 hxb.2
      rw [HKV.out] at hent
      have HENT := Lib.hid hent
      have HGW := Lib.hid (show w.heap.size ≤ GK from by rw [hGK]; exact HOWN.out.2.1.size)
      clear hr1 bb1 hw3 hGK ho3 hx3 hent hz
      try dsimp only [Act.put]
      refine wp_region_held_drew (S := (fun w' => IRow w' GK 54 .u8 K ∧ w'.cell? ⟨b1, o1 + i, none⟩ = some (.int .i64 x))) (by kernel_rfl) ?_ (fun hHeld => ?_)
      · exact ⟨R3.out.drew, HX3.out⟩
      refine wpAnyH_take (i := 0) (oi := { dst := some 38, op := Go.Op.move (Go.Operand.tmp 9), type := 24, pos := "top10.go:82", after := #[], guard := none }) (v := ?bv0) rfl (by kernel_rfl) (by kernel_rfl) (by kernel_rfl) (fun _ _ _ h => h) (Or.inl ⟨by rfl, ?by0⟩) (by assumption) ?br0
      case by0 => (intro w hSw; (try dsimp only at hSw); go_simp; try (with_reducible rfl))
      case br0 =>
      try simp only [Act.put, List.setIfInBounds_toArray, List.set_cons_zero, List.set_cons_succ]
      refine wpAnyH_take (i := 1) (oi := { dst := some 39, op := Go.Op.load 54 (Go.Operand.tmp 11), type := 54, pos := "top10.go:82", after := #[], guard := none }) (v := (.agg (K.map (Value.int .u8)).toArray)) rfl (by kernel_rfl) (by kernel_rfl) (by kernel_rfl) (fun _ _ _ h => h) (yieldsIf_load_mid (by rfl) 54 (.tmp 11) rfl GK 0 rfl (K.map (Value.int .u8)) _ (fun w' h => irow_range0 h.1) Try.underlying54 rfl HS0.out) (by assumption) ?_
      try simp only [Act.put, List.setIfInBounds_toArray, List.set_cons_zero, List.set_cons_succ]
      refine wpAnyH_take (i := 2) (oi := { dst := some 40, op := Go.Op.move (Go.Operand.tmp 0), type := 51, pos := "top10.go:82", after := #[], guard := none }) (v := ?bv2) rfl (by kernel_rfl) (by kernel_rfl) (by kernel_rfl) (fun _ _ _ h => h) (Or.inl ⟨by rfl, ?by2⟩) (by assumption) ?br2
      case by2 => (intro w hSw; (try dsimp only at hSw); go_simp; try (with_reducible rfl))
      case br2 =>
      try simp only [Act.put, List.setIfInBounds_toArray, List.set_cons_zero, List.set_cons_succ]
      refine wpAnyH_take (i := 3) (oi := { dst := some 41, op := Go.Op.move (Go.Operand.tmp 10), type := 3, pos := "top10.go:82", after := #[], guard := none }) (v := ?bv3) rfl (by kernel_rfl) (by kernel_rfl) (by kernel_rfl) (fun _ _ _ h => h) (Or.inl ⟨by rfl, ?by3⟩) (by assumption) ?br3
      case by3 => (intro w hSw; (try dsimp only at hSw); go_simp; try (with_reducible rfl))
      case br3 =>
      try simp only [Act.put, List.setIfInBounds_toArray, List.set_cons_zero, List.set_cons_succ]
      refine wpAnyH_take (i := 4) (oi := { dst := some 42, op := Go.Op.indexAddr 51 (Go.Operand.tmp 40) (Go.Operand.tmp 41), type := 0, pos := "top10.go:82", after := #[{ on := 2, ground := Go.Ground.data }, { on := 3, ground := Go.Ground.data }], guard := none }) (v := ?bv4) rfl (by kernel_rfl) (by kernel_rfl) (by kernel_rfl) (fun _ _ _ h => h) (Or.inl ⟨by rfl, ?by4⟩) (by assumption) ?br4
      case by4 => (intro w hSw; (try dsimp only at hSw); go_simp; try (with_reducible rfl))
      case br4 =>
      try simp only [Act.put, List.setIfInBounds_toArray, List.set_cons_zero, List.set_cons_succ]
      refine wpAnyH_take (i := 5) (oi := { dst := some 43, op := Go.Op.load 2 (Go.Operand.tmp 42), type := 2, pos := "top10.go:82", after := #[{ on := 4, ground := Go.Ground.data }], guard := none }) (v := (.int .i64 x)) rfl (by kernel_rfl) (by kernel_rfl) (by kernel_rfl) (fun _ _ _ h => h) (Or.inl ⟨by rfl, ?by5⟩) (by assumption) ?br5
      case by5 => (intro w hSw; (try dsimp only at hSw); go_simp; try (simp [hSw.2]))
      case br5 =>
      try simp only [Act.put, List.setIfInBounds_toArray, List.set_cons_zero, List.set_cons_succ]
      refine wpAnyH_ready (rs := [6]) (by kernel_rfl) (by simp) ?_
      refine AllReadyH.cons (o := { dst := some 44, op := Go.Op.call { callee := Go.Callee.value (Go.Operand.func 17), args := #[Go.Operand.tmp 38, Go.Operand.tmp 39, Go.Operand.tmp 43, Go.Operand.const (Go.Value.int Go.IntKind.i64 10)], argTypes := #[24, 54, 2, 3] }, type := 0, pos := "top10.go:82", after := #[{ on := 0, ground := Go.Ground.data }, { on := 1, ground := Go.Ground.data }, { on := 5, ground := Go.Ground.data }], guard := none }) rfl (fun K hK => ?_) (AllReadyH.nil)
      go_simp
      refine (HENT.out _ HO3.out.1).mono ?_
      rintro e w4 ⟨rfl, hen⟩
      obtain ⟨m4, hO4⟩ := HO3.out.entered hen
      obtain ⟨_, _, ht4, _⟩ := hen
      have r4 := R3.out.drew.turns ht4 (fun q => q.elim (irow_not_book R3.out.drew (by decide) HO3.out.1.1) (irow_not_map R3.out.drew HO3.out.1.2))
      have hx4 : w4.cell? ⟨b1, o1 + i, none⟩ = some (.int .i64 x) := (hO4.2.1.cell (p := ⟨b1, _, none⟩) HB1.out).trans HX1.out
      refine hK.out _ _ ?_ (fun hHeld => ?_)
      · exact ⟨r4, hx4⟩
      clear hK K
      try simp only [Act.put, List.setIfInBounds_toArray, List.set_cons_zero, List.set_cons_succ]
      refine wpAnyH_done (by kernel_rfl) ?_ _
      have hok4 := HOK.out.enter x (show i < 256 by omega) (show (-9223372036854775808 : Int) ≤ 10 by omega) (show (10 : Int) ≤ 9223372036854775807 by omega)
      have O4 := Lib.hid hO4
      have R4 := Lib.hid r4
      have HOK4 := Lib.hid hok4
      clear hO4 r4 hx4 ht4 hok4
      by_cases hws : 0 < ws.length
      · have d3 : decide (0 < (ws.length : Int)) = true := decide_eq_true (by omega)
        obtain ⟨j, hj⟩ : ∃ j, j = i % ws.length := ⟨_, rfl⟩
        have hjl : j < ws.length := by rw [hj]; exact Nat.mod_lt _ hws
        have ej : ((i : Int)).tmod (ws.length : Int) = (j : Int) := by rw [hj]; rfl
        obtain ⟨y, hy⟩ : ∃ y, ws[j]? = some y := ⟨_, List.getElem?_eq_getElem hjl⟩
        have hyb := HW.out y (List.mem_of_getElem? hy)
        obtain ⟨z, hz⟩ : ∃ z, z = (max 0 y).tmod 14 := ⟨_, rfl⟩
        have hz0 : 0 ≤ z ∧ z < 14 := by
          rw [hz, Int.tmod_eq_emod_of_nonneg (by omega)]
          omega
        have wz : wrap64 (10 + z) = 10 + z := by unfold wrap64; omega
        have wz2 : IntKind.i64.wrap (10 + z) = 10 + z := IntWalk.i64_in _ (by omega)
        have wne : ¬ ws = [] := by rintro rfl; simp at hws
        have hOS := fun W => one_name 1 i W
        rw [← HKE.out] at hOS
        have HOS := Lib.hid hOS
        clear hOS
        obtain ⟨A2', c2', e1, _, _, _, hcell2⟩ := H2.out
        injection e1 with e1 e1n e1c
        subst e1 e1c
        obtain ⟨b2, o2, rfl, hb2, hc2⟩ := hcell2 (by rintro rfl; simp at hws)
        have hy4 : w4.drew.cell? ⟨b2, o2 + j, none⟩ = some (.int .i64 y) := (O4.out.drew.2.1.cell (p := ⟨b2, _, none⟩) hb2).trans (hc2 j y hy)
        have HJ := Lib.hid hj
        have HY4 := Lib.hid hy4
        have HYW := Lib.hid (hc2 j y hy)
        have HB2 := Lib.hid hb2
        have bb5 : Below w4.heap.size w4 (w4.alloc (.cells (K.map (Value.int .u8)).toArray 54)).drew := ((Below.refl _ w4).alloc (Nat.le_refl _) _).drew
        have ho5 := O4.out.below bb5
        have hn5 : NmS (w4.alloc (.cells (K.map (Value.int .u8)).toArray 54)).drew 1 (.slice (some ⟨w4.heap.size, 0, none⟩) 1 1) [i] (fun q => q = g ∨ m4 = some q) :=
          nmS_of (ids := [i]) (xs := K) (IRow.new w4 54 .u8 K).drew (fun a id ha j v hv => by
            cases a with
            | zero =>
              obtain rfl : i = id := by simpa using ha
              rw [HKE.out]
              simpa using hv
            | succ a => simp at ha) (fun q => q.elim (fun q => by have := O4.out.1.1.lt; omega) (fun q => by have := O4.out.1.2.lt q; omega)) (show 1 ≤ 9223372036854775807 by decide)
        have hbl := block_any 1 g (i + 1) m4 (enterF S i x 10) (10 + z) _ [i] _ (.inr rfl) (fun id hid => by (have : id = i := by simpa using hid); omega) ho5.1 HOK4.out (by omega) hn5 (by omega) (by omega)
        have r5 := (R4.out.alloc (.cells (K.map (Value.int .u8)).toArray 54)).drew
        have HBL := Lib.hid hbl
        have O5 := Lib.hid ho5
        have R5 := Lib.hid r5
        clear bb5 ho5 hn5 hbl r5
        have HZ := Lib.hid hz
        have ez := hz.symm
        have hne : ¬ (ws.length : Int) = 0 := by omega
        clear hj hy hc2 hcell2 hb2 hy4 hz e1n
        go_wp2_with fail
        refine wp_region_held_drew (S := (fun w' => IRow w' GK 54 .u8 K ∧ w'.cell? ⟨b2, o2 + j, none⟩ = some (.int .i64 y))) (by kernel_rfl) ?_ (fun hHeld => ?_)
        · exact ⟨R4.out.drew, HY4.out⟩
        refine wpAnyH_take (i := 0) (oi := { dst := some 48, op := Go.Op.move (Go.Operand.tmp 9), type := 24, pos := "top10.go:84", after := #[], guard := none }) (v := ?cv0) rfl (by kernel_rfl) (by kernel_rfl) (by kernel_rfl) (fun _ _ _ h => h) (Or.inl ⟨by rfl, ?cy0⟩) (by assumption) ?cr0
        case cy0 => (intro w hSw; (try dsimp only at hSw); go_simp; try (with_reducible rfl))
        case cr0 =>
        try simp only [Act.put, List.setIfInBounds_toArray, List.set_cons_zero, List.set_cons_succ]
        refine wpAnyH_take (i := 1) (oi := { dst := some 49, op := Go.Op.move (Go.Operand.tmp 1), type := 52, pos := "top10.go:84", after := #[], guard := none }) (v := ?cv1) rfl (by kernel_rfl) (by kernel_rfl) (by kernel_rfl) (fun _ _ _ h => h) (Or.inl ⟨by rfl, ?cy1⟩) (by assumption) ?cr1
        case cy1 => (intro w hSw; (try dsimp only at hSw); go_simp; try (with_reducible rfl))
        case cr1 =>
        try simp only [Act.put, List.setIfInBounds_toArray, List.set_cons_zero, List.set_cons_succ]
        refine wpAnyH_take (i := 2) (oi := { dst := some 50, op := Go.Op.move (Go.Operand.tmp 10), type := 3, pos := "top10.go:84", after := #[], guard := none }) (v := ?cv2) rfl (by kernel_rfl) (by kernel_rfl) (by kernel_rfl) (fun _ _ _ h => h) (Or.inl ⟨by rfl, ?cy2⟩) (by assumption) ?cr2
        case cy2 => (intro w hSw; (try dsimp only at hSw); go_simp; try (with_reducible rfl))
        case cr2 =>
        try simp only [Act.put, List.setIfInBounds_toArray, List.set_cons_zero, List.set_cons_succ]
        refine wpAnyH_take (i := 3) (oi := { dst := some 51, op := Go.Op.move (Go.Operand.tmp 1), type := 52, pos := "top10.go:84", after := #[], guard := none }) (v := ?cv3) rfl (by kernel_rfl) (by kernel_rfl) (by kernel_rfl) (fun _ _ _ h => h) (Or.inl ⟨by rfl, ?cy3⟩) (by assumption) ?cr3
        case cy3 => (intro w hSw; (try dsimp only at hSw); go_simp; try (with_reducible rfl))
        case cr3 =>
        try simp only [Act.put, List.setIfInBounds_toArray, List.set_cons_zero, List.set_cons_succ]
        refine wpAnyH_take (i := 4) (oi := { dst := some 52, op := Go.Op.call { callee := Go.Callee.builtin Go.Builtin.len, args := #[Go.Operand.tmp 51], argTypes := #[52] }, type := 3, pos := "top10.go:84", after := #[{ on := 3, ground := Go.Ground.data }], guard := none }) (v := ?cv4) rfl (by kernel_rfl) (by kernel_rfl) (by kernel_rfl) (fun _ _ _ h => h) (Or.inl ⟨by rfl, ?cy4⟩) (by assumption) ?cr4
        case cy4 => (intro w hSw; (try dsimp only at hSw); go_simp; try (with_reducible rfl))
        case cr4 =>
        try simp only [Act.put, List.setIfInBounds_toArray, List.set_cons_zero, List.set_cons_succ]
        refine wpAnyH_take (i := 5) (oi := { dst := some 53, op := Go.Op.binOp Go.BinOp.rem 3 (Go.Operand.tmp 50) (Go.Operand.tmp 52) 3, type := 3, pos := "top10.go:84", after := #[{ on := 2, ground := Go.Ground.data }, { on := 4, ground := Go.Ground.data }], guard := none }) (v := (.int .i64 (j : Int))) rfl (by kernel_rfl) (by kernel_rfl) (by kernel_rfl) (fun _ _ _ h => h) (Or.inl ⟨by rfl, ?cy5⟩) (by assumption) ?cr5
        case cy5 => (intro w hSw; (try dsimp only at hSw); go_simp; try (exact wne))
        case cr5 =>
        try simp only [Act.put, List.setIfInBounds_toArray, List.set_cons_zero, List.set_cons_succ]
        refine wpAnyH_take (i := 6) (oi := { dst := some 54, op := Go.Op.indexAddr 52 (Go.Operand.tmp 49) (Go.Operand.tmp 53), type := 0, pos := "top10.go:84", after := #[{ on := 1, ground := Go.Ground.data }, { on := 5, ground := Go.Ground.data }], guard := none }) (v := ?cv6) rfl (by kernel_rfl) (by kernel_rfl) (by kernel_rfl) (fun _ _ _ h => h) (Or.inl ⟨by rfl, ?cy6⟩) (by assumption) ?cr6
        case cy6 => (intro w hSw; (try dsimp only at hSw); go_simp; try (with_reducible rfl))
        case cr6 =>
        try simp only [Act.put, List.setIfInBounds_toArray, List.set_cons_zero, List.set_cons_succ]
        refine wpAnyH_take (i := 7) (oi := { dst := some 55, op := Go.Op.load 3 (Go.Operand.tmp 54), type := 3, pos := "top10.go:84", after := #[{ on := 6, ground := Go.Ground.data }], guard := none }) (v := (.int .i64 y)) rfl (by kernel_rfl) (by kernel_rfl) (by kernel_rfl) (fun _ _ _ h => h) (Or.inl ⟨by rfl, ?cy7⟩) (by assumption) ?cr7
        case cy7 => (intro w hSw; (try dsimp only at hSw); go_simp; try (simp [hSw.2]))
        case cr7 =>
        try simp only [Act.put, List.setIfInBounds_toArray, List.set_cons_zero, List.set_cons_succ]
        refine wpAnyH_take (i := 8) (oi := { dst := some 56, op := Go.Op.call { callee := Go.Callee.builtin Go.Builtin.max, args := #[Go.Operand.const (Go.Value.int Go.IntKind.i64 0), Go.Operand.tmp 55], argTypes := #[3, 3] }, type := 3, pos := "top10.go:84", after := #[{ on := 7, ground := Go.Ground.data }], guard := none }) (v := (.int .i64 (max 0 y))) rfl (by kernel_rfl) (by kernel_rfl) (by kernel_rfl) (fun _ _ _ h => h) (Or.inl ⟨by rfl, ?cy8⟩) (by assumption) ?cr8
        case cy8 => (intro w hSw; (try dsimp only at hSw); go_simp; try (with_reducible rfl))
        case cr8 =>
        try simp only [Act.put, List.setIfInBounds_toArray, List.set_cons_zero, List.set_cons_succ]
        refine wpAnyH_take (i := 9) (oi := { dst := some 57, op := Go.Op.binOp Go.BinOp.rem 3 (Go.Operand.tmp 56) (Go.Operand.const (Go.Value.int Go.IntKind.i64 14)) 3, type := 3, pos := "top10.go:84", after := #[{ on := 8, ground := Go.Ground.data }], guard := none }) (v := (.int .i64 z)) rfl (by kernel_rfl) (by kernel_rfl) (by kernel_rfl) (fun _ _ _ h => h) (Or.inl ⟨by rfl, ?cy9⟩) (by assumption) ?cr9
        case cy9 => (intro w hSw; (try dsimp only at hSw); go_simp; try (with_reducible rfl))
        case cr9 =>
        try simp only [Act.put, List.setIfInBounds_toArray, List.set_cons_zero, List.set_cons_succ]
        refine wpAnyH_take (i := 10) (oi := { dst := some 58, op := Go.Op.binOp Go.BinOp.add 3 (Go.Operand.const (Go.Value.int Go.IntKind.i64 10)) (Go.Operand.tmp 57) 3, type := 3, pos := "top10.go:84", after := #[{ on := 9, ground := Go.Ground.data }], guard := none }) (v := (.int .i64 (10 + z))) rfl (by kernel_rfl) (by kernel_rfl) (by kernel_rfl) (fun _ _ _ h => h) (Or.inl ⟨by rfl, ?cy10⟩) (by assumption) ?cr10
        case cy10 => (intro w hSw; (try dsimp only at hSw); go_simp; try (exact wz2))
        case cr10 =>
        try simp only [Act.put, List.setIfInBounds_toArray, List.set_cons_zero, List.set_cons_succ]
        refine wpAnyH_take (i := 11) (oi := { dst := some 59, op := Go.Op.load 54 (Go.Operand.tmp 11), type := 54, pos := "top10.go:84", after := #[], guard := none }) (v := (.agg (K.map (Value.int .u8)).toArray)) rfl (by kernel_rfl) (by kernel_rfl) (by kernel_rfl) (fun _ _ _ h => h) (yieldsIf_load_mid (by rfl) 54 (.tmp 11) rfl GK 0 rfl (K.map (Value.int .u8)) _ (fun w' h => irow_range0 h.1) Try.underlying54 rfl HS0.out) (by assumption) ?_
        try simp only [Act.put, List.setIfInBounds_toArray, List.set_cons_zero, List.set_cons_succ]
        refine wpAnyH_ready (rs := [12]) (by kernel_rfl) (by simp) ?_
        refine AllReadyH.cons (o := { dst := some 60, op := Go.Op.buildSlice 70 1 #[(0, Go.Operand.tmp 59)], type := 70, pos := "top10.go:84", after := #[{ on := 11, ground := Go.Ground.data }], guard := none }) rfl (fun K hK => ?_) (AllReadyH.nil)
        refine wp_buildSlice _ _ _ rfl _ _ (by simp only [List.map_toArray, List.map_cons, List.map_nil]; exact HOS.out _) ?_
        refine hK.out _ _ ?_ (fun hHeld => ?_)
        · exact ⟨R4.out.drew.alloc _, (O5.out.2.1.cell (p := ⟨b2, _, none⟩) HB2.out).trans HYW.out⟩
        clear hK K
        try simp only [Act.put, List.setIfInBounds_toArray, List.set_cons_zero, List.set_cons_succ]
        refine wpAnyH_ready (rs := [13]) (by kernel_rfl) (by simp) ?_
        refine AllReadyH.cons (o := { dst := some 61, op := Go.Op.call { callee := Go.Callee.value (Go.Operand.func 18), args := #[Go.Operand.tmp 48, Go.Operand.tmp 58, Go.Operand.tmp 60], argTypes := #[24, 3, 70] }, type := 0, pos := "top10.go:84", after := #[{ on := 0, ground := Go.Ground.data }, { on := 10, ground := Go.Ground.data }, { on := 12, ground := Go.Ground.data }], guard := none }) rfl (fun K hK => ?_) (AllReadyH.nil)
        go_simp
        refine HBL.out.mono ?_
        rintro e w6 ⟨rfl, hb6, ht6⟩
        have hO6 := O5.out.turned hb6 ht6
        have r6 := R5.out.turns ht6 (fun q => q.elim (irow_not_book R5.out (by decide) O5.out.1.1) (irow_not_map R5.out O5.out.1.2))
        refine hK.out _ _ ?_ (fun hHeld => ?_)
        · exact ⟨r6, (hO6.2.1.cell (p := ⟨b2, _, none⟩) HB2.out).trans HYW.out⟩
        clear hK K
        try simp only [Act.put, List.setIfInBounds_toArray, List.set_cons_zero, List.set_cons_succ]
        refine wpAnyH_done (by kernel_rfl) ?_ _
        have hok6 := HOK4.out.block (10 + z) [i]
        have O6 := Lib.hid hO6
        have HOK6 := Lib.hid hok6
        clear hO6 r6 hb6 ht6 hok6
        go_wp2_with fail
        exact ⟨⟨i + 1, m4, _, by omega, by omega, by first | rfl | (rw [wi2]; rfl), O6.out, HOK6.out⟩, by first | exact meas_plus hl2 | exact meas_next hl2 wi2⟩
      · have d3 : decide (0 < (ws.length : Int)) = false := decide_eq_false (by omega)
        go_wp2_with fail
        exact ⟨⟨i + 1, m4, _, by omega, by omega, by first | rfl | (rw [wi2]; rfl), O4.out, HOK4.out⟩, by first | exact meas_plus hl2 | exact meas_next hl2 wi2⟩
    · have hest := fun W hbk => estimate_any 1 g i m S t p W hbk hok (show i ≤ 1000000 by omega) ht1 ht2 hp1 hp2
      have HOWN := Lib.hid hown
      have HOK := Lib.hid hok
      have HEST := Lib.hid hest
      have hcase : (i < rs.length ∧ ¬ i < 60) ∨ ¬ i < rs.length := by omega
      clear hown hok hest hlt
      rcases hcase with ⟨q1, q2⟩ | q1
      · as_aux_lemma =>
        have d1 : decide ((i : Int) < (rs.length : Int)) = true := decide_eq_true (by omega)
        have d2 : decide ((i : Int) < 60) = false := decide_eq_false (by omega)
        go_wp2_with fail
        refine (HEST.out _ HOWN.out.1).mono ?_
        rintro e w5 ⟨rfl, rfl⟩
        by_cases hE : EArg t p
        · have ex : estX S t p = 0 := by unfold estX; rw [if_pos hE]
          have ee : estE S t p = 1 := by unfold estE; rw [if_pos hE]
          rw [ex, ee]
          clear ex ee HEST
          have hc4 : t < 1 ∨ (¬ t < 1 ∧ 12 < t) ∨ (¬ t < 1 ∧ ¬ 12 < t ∧ p < 1) ∨ (¬ t < 1 ∧ ¬ 12 < t ∧ ¬ p < 1 ∧ 100 < p) := by unfold EArg at hE; omega
          clear hE
          rcases hc4 with q | ⟨q, r⟩ | ⟨q, r, s⟩ | ⟨q, r, s, u⟩
          · have g1 : decide (t < 1) = true := decide_eq_true q
            go_wp2_with fail
            exact bodyPost_ret (results_tmp rfl _ _ _) rfl ⟨rfl, HOWN.out.2.1⟩
          · have g1 : decide (t < 1) = false := decide_eq_false q
            have g2 : decide (12 < t) = true := decide_eq_true r
            go_wp2_with fail
            exact bodyPost_ret (results_tmp rfl _ _ _) rfl ⟨rfl, HOWN.out.2.1⟩
          · have g1 : decide (t < 1) = false := decide_eq_false q
            have g2 : decide (12 < t) = false := decide_eq_false r
            have g3 : decide (p < 1) = true := decide_eq_true s
            go_wp2_with fail
            exact bodyPost_ret (results_tmp rfl _ _ _) rfl ⟨rfl, HOWN.out.2.1⟩
          · have g1 : decide (t < 1) = false := decide_eq_false q
            have g2 : decide (12 < t) = false := decide_eq_false r
            have g3 : decide (p < 1) = false := decide_eq_false s
            have g4 : decide (100 < p) = true := decide_eq_true u
            go_wp2_with fail
            exact bodyPost_ret (results_tmp rfl _ _ _) rfl ⟨rfl, HOWN.out.2.1⟩
        · have g1 : decide (t < 1) = false := decide_eq_false (by unfold EArg at hE; omega)
          have g2 : decide (12 < t) = false := decide_eq_false (by unfold EArg at hE; omega)
          have g3 : decide (p < 1) = false := decide_eq_false (by unfold EArg at hE; omega)
          have g4 : decide (100 < p) = false := decide_eq_false (by unfold EArg at hE; omega)
          have ex : estX S t p = estB S t p := by unfold estX; rw [if_neg hE]
          have ee : estE S t p = if estB S t p = 0 then 7 else 0 := by unfold estE; rw [if_neg hE]
          by_cases hB : estB S t p = 0
          · rw [ex, ee, if_pos hB, hB]
            clear ex ee HEST hB hE
            go_wp2_with fail
            exact bodyPost_ret (results_tmp rfl _ _ _) rfl ⟨rfl, HOWN.out.2.1⟩
          · obtain ⟨mm, hmm, hBe, hg⟩ := estB_good S t p hB
            rw [ex, ee, if_neg hB, hBe]
            have hT : 1 ≤ t ∧ t ≤ 12 := by unfold EArg at hE; omega
            have hP : 1 ≤ p ∧ p ≤ 100 := by unfold EArg at hE; omega
            obtain ⟨s, hs⟩ : ∃ s : Nat, t = s + 1 := ⟨(t - 1).toNat, by omega⟩
            have hs12 : s < 12 := by omega
            have hts : (t - 1).toNat = s := by omega
            rw [hts] at hg
            have hal := fun k => all_any 1 g m S k wr HOWN.out.1
            have hwi := fun k => within_any 1 g m S k t wr HOWN.out.1 ht1 ht2
            have ealm : ∀ m : Nat, m < 24 → allF S (m : Int) = S.A m := fun m hm => by unfold allF; rw [if_pos (by omega)]; rfl
            have ewim : ∀ m : Nat, m < 24 → wiF S (m : Int) t = S.I m s := fun m hm => by unfold wiF; rw [if_pos ⟨by omega, by omega, hT.1, hT.2⟩, hts]; rfl
            have bA : ∀ k, k < 24 → 0 ≤ S.A k ∧ S.A k ≤ 60000 := fun k hk => ⟨HOK.out.a0 k hk, by have := HOK.out.a2 hk; omega⟩
            have bI : ∀ k, k < 24 → 0 ≤ S.I k s ∧ S.I k s ≤ 60000 := fun k hk => ⟨HOK.out.i0 k s hk hs12, by have := HOK.out.i2 hk hs12; omega⟩
            have HAL := Lib.hid hal
            have HWI := Lib.hid hwi
            have HEA := Lib.hid ealm
            have HEW := Lib.hid ewim
            have BA := Lib.hid bA
            have BI := Lib.hid bI
            have HGD := Lib.hid hg
            have HP := Lib.hid hP
            obtain ⟨R, hR⟩ : ∃ R, R = ((1000 * 2 ^ mm : Nat) : Int) := ⟨_, rfl⟩
            rw [← hR]
            have HRR := Lib.hid hR
            have HR0 := Lib.hid (show ¬ R = 0 by have := Nat.two_pow_pos mm; omega)
            clear ex ee HEST hB hE hBe hg hT hP hts hs hal hwi ealm ewim bA bI hR
            go_wp2_with fail
            go_loopw [14, 15, 16, 17] (fun a b l kk wq => SumAt S mm s a b l kk ∧ wq = wr) (fun _ _ _ kk _ => 24 - (intOf kk).toNat)
            case atStart => exact ⟨⟨0, Nat.zero_le _, rfl, rfl, rfl, rfl⟩, rfl⟩
            case round =>
              obtain ⟨⟨k, hk, rfl, rfl, rfl, rfl⟩, rfl⟩ := hrel
              by_cases hlt : k < 24
              · have e1 := upf_bound mm (show (0 : Int) ≤ 60000 by omega) k (fun j hj => BA.out j (by omega))
                have e2 := upf_bound mm (show (0 : Int) ≤ 60000 by omega) k (fun j hj => BI.out j (by omega))
                have e3 := BA.out k hlt
                have e4 := BI.out k hlt
                have c1 := HAL.out (k : Int)
                have c2 := HWI.out (k : Int)
                rw [HEA.out k hlt] at c1
                rw [HEW.out k hlt] at c2
                have n1 : upf S.A mm (k + 1) = upf S.A mm k + (if mm ≤ k then S.A k else 0) := rfl
                have n2 : upf (fun k => S.I k s) mm (k + 1) = upf (fun k => S.I k s) mm k + (if mm ≤ k then S.I k s else 0) := rfl
                obtain ⟨X, hX⟩ : ∃ X, X = upf S.A mm k := ⟨_, rfl⟩
                obtain ⟨Y, hY⟩ : ∃ Y, Y = upf (fun k => S.I k s) mm k := ⟨_, rfl⟩
                obtain ⟨x, hx⟩ : ∃ x, x = S.A k := ⟨_, rfl⟩
                obtain ⟨y, hy⟩ : ∃ y, y = S.I k s := ⟨_, rfl⟩
                obtain ⟨L, hL⟩ : ∃ L, L = lowL k := ⟨_, rfl⟩
                rw [← hX] at e1 n1 ⊢
                rw [← hY] at e2 n2 ⊢
                rw [← hx] at e3 c1 n1
                rw [← hy] at e4 c2 n2
                have hL2 : L * 2 = lowL (k + 1) := by rw [hL]; exact lowL_next k
                have dk : decide ((k : Int) < 24) = true := decide_eq_true (by omega)
                have bX : -9223372036854775808 ≤ X + x ∧ X + x ≤ 9223372036854775807 := by omega
                have bY : -9223372036854775808 ≤ Y + y ∧ Y + y ≤ 9223372036854775807 := by omega
                have bk : -9223372036854775808 ≤ (k : Int) + 1 ∧ (k : Int) + 1 ≤ 9223372036854775807 := by omega
                have bL : 0 ≤ L ∧ L * 2 ≤ 1000000000000 := by rw [hL]; exact lowL_bound hlt
                have hle : (R ≤ L) ↔ mm ≤ k := by rw [HRR.out, hL]; exact pow_le_iff
                rw [← hL]
                have C1 := Lib.hid c1
                have C2 := Lib.hid c2
                have N1 := Lib.hid n1
                have N2 := Lib.hid n2
                have L2 := Lib.hid hL2
                clear e1 e2 e3 e4 c1 c2 n1 n2 hX hY hx hy hL hL2
                by_cases hmk : mm ≤ k
                · have dl : decide (R ≤ L) = true := decide_eq_true (hle.2 hmk)
                  clear hle
                  go_wp2_with fail
                  refine C1.out.mono ?_
                  rintro e w7 ⟨rfl, rfl⟩
                  go_wp2_with fail
                  refine C2.out.mono ?_
                  rintro e w8 ⟨rfl, rfl⟩
                  go_wp2_with fail
                  exact ⟨⟨⟨k + 1, hlt, by rw [N1.out, if_pos hmk] <;> first | rfl | rw [wrap_small bX.1 bX.2], by rw [N2.out, if_pos hmk] <;> first | rfl | rw [wrap_small bY.1 bY.2], by rw [← L2.out] <;> first | rfl | rw [wrap_small (by omega) (by omega)], by first | rfl | (rw [wrap_small bk.1 bk.2]; rfl)⟩, by trivial⟩, by first | exact meas_plus hlt | exact meas_next hlt (wrap_small bk.1 bk.2)⟩
                · have dl : decide (R ≤ L) = false := decide_eq_false (fun q => hmk (hle.1 q))
                  clear hle
                  go_wp2_with fail
                  exact ⟨⟨⟨k + 1, hlt, by rw [N1.out, if_neg hmk, Int.add_zero], by rw [N2.out, if_neg hmk, Int.add_zero], by rw [← L2.out] <;> first | rfl | rw [wrap_small (by omega) (by omega)], by first | rfl | (rw [wrap_small bk.1 bk.2]; rfl)⟩, by trivial⟩, by first | exact meas_plus hlt | exact meas_next hlt (wrap_small bk.1 bk.2)⟩
              · have hk24 : k = 24 := by omega
                have e1 := upf_bound mm (show (0 : Int) ≤ 60000 by omega) 24 (fun j hj => BA.out j hj)
                have e2 := upf_bound mm (show (0 : Int) ≤ 60000 by omega) 24 (fun j hj => BI.out j hj)
                obtain ⟨gd1, gd2⟩ := HGD.out
                rw [← hk24] at e1 e2 gd1 gd2
                have dk : decide ((k : Int) < 24) = false := decide_eq_false (by omega)
                obtain ⟨X, hX⟩ : ∃ X, X = upf S.A mm k := ⟨_, rfl⟩
                obtain ⟨Y, hY⟩ : ∃ Y, Y = upf (fun k => S.I k s) mm k := ⟨_, rfl⟩
                rw [← hX] at e1 gd1 gd2 ⊢
                rw [← hY] at e2 gd2 ⊢
                have hpX : 0 ≤ p * X ∧ p * X ≤ 1000000000 := by
                  obtain ⟨hP1, hP2⟩ := HP.out
                  refine ⟨Int.mul_nonneg (by omega) e1.1, ?_⟩
                  have h1 : p * X ≤ 100 * X := Int.mul_le_mul_of_nonneg_right hP2 e1.1
                  omega
                have dd1 : decide (2000 ≤ X) = true := decide_eq_true gd1
                have dd2 : decide (p * X ≤ Y * 100) = true := decide_eq_true gd2
                clear gd1 gd2 hX hY hk24
                go_wp2_with fail
                exact bodyPost_ret (results_tmp rfl _ _ _) rfl ⟨rfl, HOWN.out.2.1⟩
      · as_aux_lemma =>
        have d1 : decide ((i : Int) < (rs.length : Int)) = false := decide_eq_false (by omega)
        go_wp2_with fail
        refine (HEST.out _ HOWN.out.1).mono ?_
        rintro e w5 ⟨rfl, rfl⟩
        by_cases hE : EArg t p
        · have ex : estX S t p = 0 := by unfold estX; rw [if_pos hE]
          have ee : estE S t p = 1 := by unfold estE; rw [if_pos hE]
          rw [ex, ee]
          clear ex ee HEST
          have hc4 : t < 1 ∨ (¬ t < 1 ∧ 12 < t) ∨ (¬ t < 1 ∧ ¬ 12 < t ∧ p < 1) ∨ (¬ t < 1 ∧ ¬ 12 < t ∧ ¬ p < 1 ∧ 100 < p) := by unfold EArg at hE; omega
          clear hE
          rcases hc4 with q | ⟨q, r⟩ | ⟨q, r, s⟩ | ⟨q, r, s, u⟩
          · have g1 : decide (t < 1) = true := decide_eq_true q
            go_wp2_with fail
            exact bodyPost_ret (results_tmp rfl _ _ _) rfl ⟨rfl, HOWN.out.2.1⟩
          · have g1 : decide (t < 1) = false := decide_eq_false q
            have g2 : decide (12 < t) = true := decide_eq_true r
            go_wp2_with fail
            exact bodyPost_ret (results_tmp rfl _ _ _) rfl ⟨rfl, HOWN.out.2.1⟩
          · have g1 : decide (t < 1) = false := decide_eq_false q
            have g2 : decide (12 < t) = false := decide_eq_false r
            have g3 : decide (p < 1) = true := decide_eq_true s
            go_wp2_with fail
            exact bodyPost_ret (results_tmp rfl _ _ _) rfl ⟨rfl, HOWN.out.2.1⟩
          · have g1 : decide (t < 1) = false := decide_eq_false q
            have g2 : decide (12 < t) = false := decide_eq_false r
            have g3 : decide (p < 1) = false := decide_eq_false s
            have g4 : decide (100 < p) = true := decide_eq_true u
            go_wp2_with fail
            exact bodyPost_ret (results_tmp rfl _ _ _) rfl ⟨rfl, HOWN.out.2.1⟩
        · have g1 : decide (t < 1) = false := decide_eq_false (by unfold EArg at hE; omega)
          have g2 : decide (12 < t) = false := decide_eq_false (by unfold EArg at hE; omega)
          have g3 : decide (p < 1) = false := decide_eq_false (by unfold EArg at hE; omega)
          have g4 : decide (100 < p) = false := decide_eq_false (by unfold EArg at hE; omega)
          have ex : estX S t p = estB S t p := by unfold estX; rw [if_neg hE]
          have ee : estE S t p = if estB S t p = 0 then 7 else 0 := by unfold estE; rw [if_neg hE]
          by_cases hB : estB S t p = 0
          · rw [ex, ee, if_pos hB, hB]
            clear ex ee HEST hB hE
            go_wp2_with fail
            exact bodyPost_ret (results_tmp rfl _ _ _) rfl ⟨rfl, HOWN.out.2.1⟩
          · obtain ⟨mm, hmm, hBe, hg⟩ := estB_good S t p hB
            rw [ex, ee, if_neg hB, hBe]
            have hT : 1 ≤ t ∧ t ≤ 12 := by unfold EArg at hE; omega
            have hP : 1 ≤ p ∧ p ≤ 100 := by unfold EArg at hE; omega
            obtain ⟨s, hs⟩ : ∃ s : Nat, t = s + 1 := ⟨(t - 1).toNat, by omega⟩
            have hs12 : s < 12 := by omega
            have hts : (t - 1).toNat = s := by omega
            rw [hts] at hg
            have hal := fun k => all_any 1 g m S k wr HOWN.out.1
            have hwi := fun k => within_any 1 g m S k t wr HOWN.out.1 ht1 ht2
            have ealm : ∀ m : Nat, m < 24 → allF S (m : Int) = S.A m := fun m hm => by unfold allF; rw [if_pos (by omega)]; rfl
            have ewim : ∀ m : Nat, m < 24 → wiF S (m : Int) t = S.I m s := fun m hm => by unfold wiF; rw [if_pos ⟨by omega, by omega, hT.1, hT.2⟩, hts]; rfl
            have bA : ∀ k, k < 24 → 0 ≤ S.A k ∧ S.A k ≤ 60000 := fun k hk => ⟨HOK.out.a0 k hk, by have := HOK.out.a2 hk; omega⟩
            have bI : ∀ k, k < 24 → 0 ≤ S.I k s ∧ S.I k s ≤ 60000 := fun k hk => ⟨HOK.out.i0 k s hk hs12, by have := HOK.out.i2 hk hs12; omega⟩
            have HAL := Lib.hid hal
            have HWI := Lib.hid hwi
            have HEA := Lib.hid ealm
            have HEW := Lib.hid ewim
            have BA := Lib.hid bA
            have BI := Lib.hid bI
            have HGD := Lib.hid hg
            have HP := Lib.hid hP
            obtain ⟨R, hR⟩ : ∃ R, R = ((1000 * 2 ^ mm : Nat) : Int) := ⟨_, rfl⟩
            rw [← hR]
            have HRR := Lib.hid hR
            have HR0 := Lib.hid (show ¬ R = 0 by have := Nat.two_pow_pos mm; omega)
            clear ex ee HEST hB hE hBe hg hT hP hts hs hal hwi ealm ewim bA bI hR
            go_wp2_with fail
            go_loopw [14, 15, 16, 17] (fun a b l kk wq => SumAt S mm s a b l kk ∧ wq = wr) (fun _ _ _ kk _ => 24 - (intOf kk).toNat)
            case atStart => exact ⟨⟨0, Nat.zero_le _, rfl, rfl, rfl, rfl⟩, rfl⟩
            case round =>
              obtain ⟨⟨k, hk, rfl, rfl, rfl, rfl⟩, rfl⟩ := hrel
              by_cases hlt : k < 24
              · have e1 := upf_bound mm (show (0 : Int) ≤ 60000 by omega) k (fun j hj => BA.out j (by omega))
                have e2 := upf_bound mm (show (0 : Int) ≤ 60000 by omega) k (fun j hj => BI.out j (by omega))
                have e3 := BA.out k hlt
                have e4 := BI.out k hlt
                have c1 := HAL.out (k : Int)
                have c2 := HWI.out (k : Int)
                rw [HEA.out k hlt] at c1
                rw [HEW.out k hlt] at c2
                have n1 : upf S.A mm (k + 1) = upf S.A mm k + (if mm ≤ k then S.A k else 0) := rfl
                have n2 : upf (fun k => S.I k s) mm (k + 1) = upf (fun k => S.I k s) mm k + (if mm ≤ k then S.I k s else 0) := rfl
                obtain ⟨X, hX⟩ : ∃ X, X = upf S.A mm k := ⟨_, rfl⟩
                obtain ⟨Y, hY⟩ : ∃ Y, Y = upf (fun k => S.I k s) mm k := ⟨_, rfl⟩
                obtain ⟨x, hx⟩ : ∃ x, x = S.A k := ⟨_, rfl⟩
                obtain ⟨y, hy⟩ : ∃ y, y = S.I k s := ⟨_, rfl⟩
                obtain ⟨L, hL⟩ : ∃ L, L = lowL k := ⟨_, rfl⟩
                rw [← hX] at e1 n1 ⊢
                rw [← hY] at e2 n2 ⊢
                rw [← hx] at e3 c1 n1
                rw [← hy] at e4 c2 n2
                have hL2 : L * 2 = lowL (k + 1) := by rw [hL]; exact lowL_next k
                have dk : decide ((k : Int) < 24) = true := decide_eq_true (by omega)
                have bX : -9223372036854775808 ≤ X + x ∧ X + x ≤ 9223372036854775807 := by omega
                have bY : -9223372036854775808 ≤ Y + y ∧ Y + y ≤ 9223372036854775807 := by omega
                have bk : -9223372036854775808 ≤ (k : Int) + 1 ∧ (k : Int) + 1 ≤ 9223372036854775807 := by omega
                have bL : 0 ≤ L ∧ L * 2 ≤ 1000000000000 := by rw [hL]; exact lowL_bound hlt
                have hle : (R ≤ L) ↔ mm ≤ k := by rw [HRR.out, hL]; exact pow_le_iff
                rw [← hL]
                have C1 := Lib.hid c1
                have C2 := Lib.hid c2
                have N1 := Lib.hid n1
                have N2 := Lib.hid n2
                have L2 := Lib.hid hL2
                clear e1 e2 e3 e4 c1 c2 n1 n2 hX hY hx hy hL hL2
                by_cases hmk : mm ≤ k
                · have dl : decide (R ≤ L) = true := decide_eq_true (hle.2 hmk)
                  clear hle
                  go_wp2_with fail
                  refine C1.out.mono ?_
                  rintro e w7 ⟨rfl, rfl⟩
                  go_wp2_with fail
                  refine C2.out.mono ?_
                  rintro e w8 ⟨rfl, rfl⟩
                  go_wp2_with fail
                  exact ⟨⟨⟨k + 1, hlt, by rw [N1.out, if_pos hmk] <;> first | rfl | rw [wrap_small bX.1 bX.2], by rw [N2.out, if_pos hmk] <;> first | rfl | rw [wrap_small bY.1 bY.2], by rw [← L2.out] <;> first | rfl | rw [wrap_small (by omega) (by omega)], by first | rfl | (rw [wrap_small bk.1 bk.2]; rfl)⟩, by trivial⟩, by first | exact meas_plus hlt | exact meas_next hlt (wrap_small bk.1 bk.2)⟩
                · have dl : decide (R ≤ L) = false := decide_eq_false (fun q => hmk (hle.1 q))
                  clear hle
                  go_wp2_with fail
                  exact ⟨⟨⟨k + 1, hlt, by rw [N1.out, if_neg hmk, Int.add_zero], by rw [N2.out, if_neg hmk, Int.add_zero], by rw [← L2.out] <;> first | rfl | rw [wrap_small (by omega) (by omega)], by first | rfl | (rw [wrap_small bk.1 bk.2]; rfl)⟩, by trivial⟩, by first | exact meas_plus hlt | exact meas_next hlt (wrap_small bk.1 bk.2)⟩
              · have hk24 : k = 24 := by omega
                have e1 := upf_bound mm (show (0 : Int) ≤ 60000 by omega) 24 (fun j hj => BA.out j hj)
                have e2 := upf_bound mm (show (0 : Int) ≤ 60000 by omega) 24 (fun j hj => BI.out j hj)
                obtain ⟨gd1, gd2⟩ := HGD.out
                rw [← hk24] at e1 e2 gd1 gd2
                have dk : decide ((k : Int) < 24) = false := decide_eq_false (by omega)
                obtain ⟨X, hX⟩ : ∃ X, X = upf S.A mm k := ⟨_, rfl⟩
                obtain ⟨Y, hY⟩ : ∃ Y, Y = upf (fun k => S.I k s) mm k := ⟨_, rfl⟩
                rw [← hX] at e1 gd1 gd2 ⊢
                rw [← hY] at e2 gd2 ⊢
                have hpX : 0 ≤ p * X ∧ p * X ≤ 1000000000 := by
                  obtain ⟨hP1, hP2⟩ := HP.out
                  refine ⟨Int.mul_nonneg (by omega) e1.1, ?_⟩
                  have h1 : p * X ≤ 100 * X := Int.mul_le_mul_of_nonneg_right hP2 e1.1
                  omega
                have dd1 : decide (2000 ≤ X) = true := decide_eq_true gd1
                have dd2 : decide (p * X ≤ Y * 100) = true := decide_eq_true gd2
                clear gd1 gd2 hX hY hk24
                go_wp2_with fail
                exact bodyPost_ret (results_tmp rfl _ _ _) rfl ⟨rfl, HOWN.out.2.1⟩
end Go.Proofs.Ytjhlkcbcgjcdlaa
