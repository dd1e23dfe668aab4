/-
  text.spell: the letters of an alphabet at these places. Conditions: each place is in the alphabet; sizes within the reach.
-/
import Derived.Test.YtpaafkhlelljcaaDoorRow
import Derived.Lib.IndexBytes
namespace Go.Proofs.YtpaafkhlelljcaaDoor
open Go.RowKit

def letters (s : ByteArray) (ps : List UInt8) : List UInt8 := ps.map fun p => s.data.toList.getD p.toNat 0
theorem letters_length (s : ByteArray) (ps : List UInt8) : (letters s ps).length = ps.length := by simp [letters]
theorem letters_at {s : ByteArray} {ps : List UInt8} {i : Nat} {p : UInt8} (hp : ps[i]? = some p) (h : p.toNat < s.size) : (letters s ps)[i]? = some (s[p.toNat]'h) := by
  unfold letters
  rw [List.getElem?_map, hp]
  simp only [Option.map_some]
  rw [List.getD_eq_getElem?_getD, Lib.data_getElem? s _ h]
  rfl

theorem go_bv (u : UInt8) : bv u = .int .u8 (u.toNat : Int) := rfl

set_option maxRecDepth 100000 in
set_option maxHeartbeats 1600000 in
theorem spell_any (B : Nat) (x : Value) (ps : List UInt8) (s : ByteArray) (w : World) (hx : Byt w B x ps) (hB : B ≤ w.heap.size) (hl : ps.length ≤ 60000) (hin : ∀ p ∈ ps, p.toNat < s.size) :
    Calls Tryd.prog 33 #[x, .string s] w fun e w' => e = .returned (.string ⟨(letters s ps).toArray⟩) ∧ Below w.heap.size w w' := by
  obtain ⟨A, c, hxf⟩ := hx.form
  subst hxf
  have hmk := fun W => make_bytes W ps.length (ps.length : Int) rfl (by omega)
  have hX := Lib.hid hx
  have HIN := Lib.hid hin
  clear hx hin
  obtain ⟨ls, hls⟩ : ∃ ls, ls = letters s ps := ⟨_, rfl⟩
  have hll : ls.length = ps.length := by rw [hls, letters_length]
  rw [← hls]
  have HLS := Lib.hid hls
  have HLL := Lib.hid hll
  clear hls hll
  go_enter Tryd.func33, Tryd.ntmps33
  go_wp2_with fail
  clear hmk
  go_loopw [13] (fun j wr => ∃ i : Nat, i ≤ ps.length ∧ j = .int .i64 i ∧ FillB w w.heap.size i ls wr) (fun j _ => ps.length - (intOf j).toNat)
  case atStart => exact ⟨0, Nat.zero_le _, rfl, _, rfl, by simpa [HLL.out] using row_new w ps.length, (Below.refl _ _).alloc (Nat.le_refl _) _⟩
  case round =>
    obtain ⟨i, hi, rfl, hfill⟩ := hrel
    by_cases hlt : i < ps.length
    · obtain ⟨zs, hz, hrow, hbel⟩ := hfill
      have hcell : wr.cell? ⟨w.heap.size, i, none⟩ = some (.int .u8 0) := hrow.cell (fillB_zero (by rw [HLL.out]; exact hlt) hz)
      have hfree := hrow.free i
      obtain ⟨A', c', e0, _, _, _, h4⟩ := hX.out
      injection e0 with e1 e2 e3
      subst e1 e3
      obtain ⟨b, o, rfl, hb, hbc⟩ := h4 (by rintro rfl; simp at hlt)
      have hci := hbc i _ (List.getElem?_eq_getElem hlt)
      obtain ⟨q, hq⟩ : ∃ q, q = ps[i] := ⟨_, rfl⟩
      rw [← hq] at hci
      have hqs : q.toNat < s.size := HIN.out q (by rw [hq]; exact List.getElem_mem hlt)
      have hbi : wr.cell? ⟨b, o + i, none⟩ = some (.int .u8 (q.toNat : Int)) := (hbel.cell (p := ⟨b, _, none⟩) (by show b < _; omega)).trans hci
      have hat : ls[i]? = some (s[q.toNat]'hqs) := by rw [HLS.out]; exact letters_at (by rw [hq]; exact List.getElem?_eq_getElem hlt) hqs
      have HQ := Lib.hid hq
      have HZ := Lib.hid hz
      have HR := Lib.hid hrow
      have HA := Lib.hid hat
      clear hq hz hrow hci hbc h4 hat
      go_wp2
      refine ⟨⟨i + 1, by omega, by go_num, ?_⟩, ?_⟩
      · exact fillB_next (by rw [HLL.out]; exact hlt) HA.out HZ.out (HR.out.set _) (hbel.setCell (Nat.le_refl _) _)
      · simp [intOf]; omega
    · have hie : i = ls.length := by rw [HLL.out]; omega
      rw [hie] at hfill
      obtain ⟨hrow, hbel⟩ := fillB_end hfill
      have hby := hrow.byt (n := ls.length) (c := ls.length) (Nat.le_refl _) (Nat.le_refl _) (by have := HLL.out; unfold maxLen; omega)
      rw [List.take_length, HLL.out] at hby
      have hrs := run_string_of (P := Tryd.prog) wr 22 9 5 slice_u8 Tryd.underlying5 Tryd.underlying9 _ _ ls hby
      clear hby hrow hie hfill
      go_wp2
      go_ret
      exact ⟨rfl, hbel⟩

end Go.Proofs.YtpaafkhlelljcaaDoor
