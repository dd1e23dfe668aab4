/-
  text.Checksum: the sum of a descriptor. Conditions: the listed table holds what its text lays; sizes within the reach.
-/
import Derived.Test.YtpaafkhlelljcaaDoorChkPure
import Derived.Test.YtpaafkhlelljcaaDoorFives
import Derived.Deep.RegionWith
namespace Go.Proofs.YtpaafkhlelljcaaDoor
open Go.RowKit

/-- The descriptors' code lies where it lies. -/
def CodeIs (w : World) : Prop := 0 < w.heap.size ∧ w.cell? ⟨0, 0, none⟩ = some (.int .i64 35) ∧ w.cell? ⟨0, 1, none⟩ = some (.int .u64 1056006543753) ∧
  w.cell? ⟨0, 2, none⟩ = some (.int .u64 730107360018) ∧ w.cell? ⟨0, 3, none⟩ = some (.int .u64 118834127661) ∧ w.cell? ⟨0, 4, none⟩ = some (.int .u64 236335490938) ∧
  w.cell? ⟨0, 5, none⟩ = some (.int .u64 430795026429)
theorem CodeIs.below {w w' : World} {B : Nat} (h : CodeIs w) (hb : Below B w w') (hB : 0 < B) : CodeIs w' := by
  obtain ⟨h0, h1, h2, h3, h4, h5, h6⟩ := h
  have k := fun o => hb.cell (p := ⟨0, o, none⟩) hB
  exact ⟨Nat.lt_of_lt_of_le h0 hb.size, (k 0).trans h1, (k 1).trans h2, (k 2).trans h3, (k 3).trans h4, (k 4).trans h5, (k 5).trans h6⟩

def turnsN (c : Nat) (vs : List UInt8) : Nat := vs.foldl (fun c v => turnN c v.toNat) c
theorem turns_nat : ∀ (vs : List UInt8) (c : Nat), c < 1099511627776 → vs.foldl (stepI X0) (c : Int) = ((turnsN c vs : Nat) : Int)
  | [], _, _ => rfl
  | v :: vs, c, hc => by
    have hv := v.toNat_lt
    rw [List.foldl_cons, stepI_nat c v hc, turns_nat vs _ (turnN_lt _ _ (by omega))]
    rfl
theorem turns_call (B : Nat) (x : Value) (vs : List UInt8) (c : Nat) (w : World) (hx : Byt w B x vs) (hB : B ≤ w.heap.size) (hl : vs.length ≤ 60000) (hc : c < 1099511627776) :
    Calls Tryd.prog 49 #[.agg #[.int .i64 35, .int .u64 1056006543753, .int .u64 730107360018, .int .u64 118834127661, .int .u64 236335490938, .int .u64 430795026429], .int .u64 c, x] w fun e w' => e = .returned (.int .u64 ((turnsN c vs : Nat) : Int)) ∧ Below w.heap.size w w' := by
  rw [← turns_nat vs c hc]
  exact step_any B x vs c X0 w hx hB hl (by omega) (by omega)

/-- One value, boxed. -/
theorem turn_call (q : Int) (c : Nat) (w : World) (h0 : 0 ≤ q) (h1 : q < 256) (hc : c < 1099511627776) :
    Calls Tryd.prog 49 #[.agg #[.int .i64 35, .int .u64 1056006543753, .int .u64 730107360018, .int .u64 118834127661, .int .u64 236335490938, .int .u64 430795026429], .int .u64 c, .slice (some ⟨w.heap.size, 0, none⟩) 1 1] (w.alloc (.cells #[.int .u8 q] 5))
      fun e w' => e = .returned (.int .u64 ((turnN c q.toNat : Nat) : Int)) ∧ Below w.heap.size w w' := by
  have hm : Byt (w.alloc (.cells #[.int .u8 q] 5)) (w.heap.size + 1) (.slice (some ⟨w.heap.size, 0, none⟩) 1 1) [b8 q] :=
    Byt.made w _ [_] [b8 q] (by rw [List.map_cons, List.map_nil, bv_b8_of h0 h1]) (by unfold maxLen; simp)
  refine (turns_call _ _ [b8 q] c _ hm (by simp) (by simp) hc).mono ?_
  rintro e w' ⟨rfl, hb⟩
  refine ⟨?_, ((Below.refl _ _).alloc (Nat.le_refl _) _).trans (hb.mono (by simp))⟩
  have : (b8 q).toNat = q.toNat := by have := b8_toNat q; omega
  unfold turnsN
  rw [List.foldl_cons, List.foldl_nil, this]

theorem chk1_open (c g : Nat) {p : Nat} : chk1 ⟨c, g, 2⟩ p = ⟨turnN (turnN c (p % 32)) (3 * g + p / 32), 0, 0⟩ := rfl
theorem chk1_in (c g k : Nat) {p : Nat} (h : k < 2) : chk1 ⟨c, g, k⟩ p = ⟨turnN c (p % 32), 3 * g + p / 32, k + 1⟩ := by
  unfold chk1
  rw [if_neg (by show ¬ k + 1 = 3; omega)]
def natsOf (ps : List UInt8) : List Nat := ps.map UInt8.toNat
theorem chkAll_snoc {ps : List UInt8} {i : Nat} {q : UInt8} (h : ps[i]? = some q) : chkAll ((natsOf ps).take (i + 1)) = chk1 (chkAll ((natsOf ps).take i)) q.toNat := by
  unfold chkAll natsOf
  rw [List.take_add_one, List.getElem?_map, h, List.foldl_append]
  rfl

/-- The letters of a sum. -/
def l32 : ByteArray := ⟨#[113, 112, 122, 114, 121, 57, 120, 56, 103, 102, 50, 116, 118, 100, 119, 48, 115, 51, 106, 110, 53, 52, 107, 104, 99, 101, 54, 109, 117, 97, 55, 108]⟩
def inB : ByteArray := ⟨#[48, 49, 50, 51, 52, 53, 54, 55, 56, 57, 40, 41, 91, 93, 44, 39, 47, 42, 97, 98, 99, 100, 101, 102, 103, 104, 64, 58, 36, 37, 123, 125, 73, 74, 75, 76, 77, 78, 79, 80, 81, 82, 83, 84, 85, 86, 87, 88, 89, 90, 38, 43, 45, 46, 59, 60, 61, 62, 63, 33, 94, 95, 124, 126, 105, 106, 107, 108, 109, 110, 111, 112, 113, 114, 115, 116, 117, 118, 119, 120, 121, 122, 65, 66, 67, 68, 69, 70, 71, 72, 96, 35, 34, 92, 32]⟩
def sumLetters (c : Nat) : List UInt8 := (eightOf c).map fun v => l32.data.toList.getD v 0

end Go.Proofs.YtpaafkhlelljcaaDoor
