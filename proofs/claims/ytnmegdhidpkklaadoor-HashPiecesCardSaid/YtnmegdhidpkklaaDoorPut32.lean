/-
  hash.put32, walked. Conditions: four places are there, the row may be written.
-/
import Derived.Test.YtnmegdhidpkklaaDoorStep256
namespace Go.Proofs.YtnmegdhidpkklaaDoor
open Go.RowKit

/-- Four bytes of a word laid over a row. -/
def put4 (xs : List Int) (o : Nat) (x : Int) : List Int := (((xs.set o (x / 16777216 % 256)).set (o + 1) (x / 65536 % 256)).set (o + 2) (x / 256 % 256)).set (o + 3) (x % 256)
theorem put4_length (xs : List Int) (o : Nat) (x : Int) : (put4 xs o x).length = xs.length := by simp [put4]

set_option maxRecDepth 100000 in
set_option maxHeartbeats 1600000 in
theorem put32_any (b o len c : Nat) (t : TypeId) (xs : List Int) (x : Int) (w : World) (hr : IRow w b t .u8 xs) (hl : 4 ≤ len) (ho : o + 4 ≤ xs.length) :
    Calls Tryd.prog 48 #[.slice (some ⟨b, o, none⟩) len c, .int .u32 x] w fun e w' => e = .returned (.tuple #[]) ∧ IRow w' b t .u8 (put4 xs o x) ∧ ∀ B, B ≤ b → Below B w w' := by
  have i0 : (0 : Int) < (len : Int) := by omega
  have i1 : (1 : Int) < (len : Int) := by omega
  have i2 : (2 : Int) < (len : Int) := by omega
  have i3 : (3 : Int) < (len : Int) := by omega
  have r1 := hr.set o (x / 16777216 % 256)
  have r2 := r1.set (o + 1) (x / 65536 % 256)
  have r3 := r2.set (o + 2) (x / 256 % 256)
  have r4 := r3.set (o + 3) (x % 256)
  have k0 := hr.cell (i := o) (List.getElem?_eq_getElem (by omega))
  have k1 := r1.cell (i := o + 1) (List.getElem?_eq_getElem (by simp; omega))
  have k2 := r2.cell (i := o + 2) (List.getElem?_eq_getElem (by simp; omega))
  have k3 := r3.cell (i := o + 3) (List.getElem?_eq_getElem (by simp; omega))
  have f0 := hr.free o
  have f1 := r1.free (o + 1)
  have f2 := r2.free (o + 2)
  have f3 := r3.free (o + 3)
  have HR := Lib.hid r4
  clear hr r1 r2 r3 r4
  go_enter Tryd.func48, Tryd.ntmps48
  go_wp2
  refine bodyPost_end (results_none Tryd.results48 _ _ _) rfl ⟨rfl, HR.out, fun B hB => ((((Below.refl B w).setCell hB _).setCell hB _).setCell hB _).setCell hB _⟩
end Go.Proofs.YtnmegdhidpkklaaDoor
