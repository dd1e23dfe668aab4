/-
  text.fives: values of five bits, the most significant first. Conditions: at most 12 values; the number is below 2^64.
-/
import Derived.Test.YtpaafkhlelljcaaDoorStep
namespace Go.Proofs.YtpaafkhlelljcaaDoor
open Go.RowKit

def fiveI (c : Int) (d : Nat) : UInt8 := b8 (bits .and .u64 (c / 2 ^ d) 31)
def fivesI (c : Int) (n : Nat) : List UInt8 := (List.range n).map fun i => fiveI c (5 * (n - 1 - i))

set_option maxRecDepth 100000 in
set_option maxHeartbeats 1600000 in
theorem fives_any (c : Int) (n : Nat) (w : World) (hn : n ≤ 8) (_hc0 : 0 ≤ c) (_hc1 : c < 18446744073709551616) :
    Calls Tryd.prog 50 #[.int .u64 c, .int .i64 n] w fun e w' => e = .returned (.slice (some ⟨w.heap.size, 0, none⟩) n n) ∧ Row w' w.heap.size (fivesI c n) ∧ Below w.heap.size w w' := by
  have hmk := fun W => make_bytes W n (n : Int) rfl (by omega)
  obtain ⟨ls, hls⟩ : ∃ ls, ls = fivesI c n := ⟨_, rfl⟩
  have hll : ls.length = n := by rw [hls]; simp [fivesI]
  rw [← hls]
  have HLS := Lib.hid hls
  have HLL := Lib.hid hll
  clear hls hll
  go_enter Tryd.func50, Tryd.ntmps50
  go_wp2_with fail
  clear hmk
  go_loopw [11] (fun j wr => ∃ i : Nat, i ≤ n ∧ j = .int .i64 i ∧ FillB w w.heap.size i ls wr) (fun j _ => n - (intOf j).toNat)
  case atStart => exact ⟨0, Nat.zero_le _, rfl, _, rfl, by simpa [HLL.out] using row_new w n, (Below.refl _ _).alloc (Nat.le_refl _) _⟩
  case round =>
    obtain ⟨i, hi, rfl, hfill⟩ := hrel
    by_cases hlt : i < n
    · obtain ⟨zs, hz, hrow, hbel⟩ := hfill
      have hcell : wr.cell? ⟨w.heap.size, i, none⟩ = some (.int .u8 0) := hrow.cell (fillB_zero (by rw [HLL.out]; exact hlt) hz)
      have hfree := hrow.free i
      have hat : ls[i]? = some (fiveI c (5 * (n - 1 - i))) := by
        rw [HLS.out]; unfold fivesI; rw [List.getElem?_map, List.getElem?_range hlt]; rfl
      have hi8 : i ≤ 8 := by omega
      have HZ := Lib.hid hz
      have HR := Lib.hid hrow
      have HA := Lib.hid hat
      clear hz hrow hat
      go_wp2
      refine ⟨⟨i + 1, by omega, by go_num, fillB_next (by rw [HLL.out]; exact hlt) HA.out HZ.out ?_ (hbel.setCell (Nat.le_refl _) _)⟩, by simp [intOf]; omega⟩
      have h1 := HR.out.set (i := i) (fiveI c (5 * (n - 1 - i)))
      unfold fiveI at h1
      rw [bv_b8] at h1
      exact h1
    · have hie : i = ls.length := by rw [HLL.out]; omega
      rw [hie] at hfill
      have HF := Lib.hid (fillB_end hfill)
      clear hie hfill
      go_wp2
      go_ret
      exact ⟨rfl, HF.out.1, HF.out.2⟩

end Go.Proofs.YtpaafkhlelljcaaDoor
