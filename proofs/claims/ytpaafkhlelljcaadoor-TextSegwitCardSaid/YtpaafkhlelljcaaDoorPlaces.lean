/-
  text.places: where each byte of a text stands in an alphabet. Conditions: sizes within the reach.
-/
import Derived.Test.YtpaafkhlelljcaaDoorSpell
import Derived.Lib.Bytealg
namespace Go.Proofs.YtpaafkhlelljcaaDoor
open Go.RowKit

set_option maxRecDepth 100000 in
set_option maxHeartbeats 800000 in
theorem slite_any (s : ByteArray) (c : Int) (w : World) :
    Calls Tryd.prog 74 #[.string s, .int .u8 c] w fun e w' => e = .returned (.int .i64 (Lib.indexByte s.data.toList c.toNat.toUInt8)) ∧ w = w' := by
  go_enter Tryd.func74, Tryd.ntmps74
  go_wp2
  rw [run_callFunc_extern Tryd.func84 (by kernel_rfl) (by kernel_rfl) (by kernel_rfl) (e := Extern.BytealgIndexByte.indexByte) (by kernel_rfl), Lib.run_indexByteString]
  simp only [Result.andThen]
  rw [Oper.upon_value]
  go_wp2
  go_ret
  exact ⟨rfl, rfl⟩

set_option maxRecDepth 100000 in
set_option maxHeartbeats 800000 in
theorem sbyte_any (s : ByteArray) (c : Int) (w : World) :
    Calls Tryd.prog 61 #[.string s, .int .u8 c] w fun e w' => e = .returned (.int .i64 (Lib.indexByte s.data.toList c.toNat.toUInt8)) ∧ w = w' := by
  have C := Lib.hid (slite_any s c)
  go_enter Tryd.func61, Tryd.ntmps61
  go_wp2_with fail
  refine (C.out _).mono ?_
  rintro e w' ⟨rfl, rfl⟩
  go_wp2
  go_ret
  exact ⟨rfl, rfl⟩

/-- Where a byte stands. -/
def posB (al : ByteArray) (c : UInt8) : Int := Lib.indexByte al.data.toList c
def placesB (al : ByteArray) (cs : List UInt8) : List UInt8 := cs.map fun c => b8 (posB al c)
theorem placesB_length (al : ByteArray) (cs : List UInt8) : (placesB al cs).length = cs.length := by simp [placesB]

/-- What places answers. -/
def PlacesPost (w : World) (al : ByteArray) (cs : List UInt8) (e : Ending) (w' : World) : Prop :=
  Below w.heap.size w w' ∧ ((∀ c ∈ cs, 0 ≤ posB al c) ∧ e = .returned (.tuple #[.slice (some ⟨w.heap.size, 0, none⟩) cs.length cs.length, .bool true]) ∧ Row w' w.heap.size (placesB al cs) ∨
    (∃ c ∈ cs, posB al c < 0) ∧ e = .returned (.tuple #[.slice none 0 0, .bool false]))

theorem u8_back (c : UInt8) : ((c.toNat : Int)).toNat.toUInt8 = c := by simp

set_option maxRecDepth 100000 in
set_option maxHeartbeats 1600000 in
theorem places_any (s al : ByteArray) (w : World) (hl : s.size ≤ 60000) (hal : al.size ≤ 255) :
    Calls Tryd.prog 43 #[.string s, .string al] w (PlacesPost w al s.data.toList) := by
  have hmk := fun W => make_bytes W s.size (s.size : Int) rfl (by omega)
  obtain ⟨ls, hls⟩ : ∃ ls, ls = placesB al s.data.toList := ⟨_, rfl⟩
  have hll : ls.length = s.size := by rw [hls, placesB_length]; rfl
  have HLS := Lib.hid hls
  have HLL := Lib.hid hll
  clear hls hll
  go_enter Tryd.func43, Tryd.ntmps43
  go_wp2_with fail
  clear hmk
  go_loopw [14] (fun j wr => ∃ i : Nat, i ≤ s.size ∧ j = .int .i64 i ∧ FillB w w.heap.size i ls wr ∧ ∀ c ∈ s.data.toList.take i, 0 ≤ posB al c) (fun j _ => s.size - (intOf j).toNat)
  case atStart => exact ⟨0, Nat.zero_le _, rfl, ⟨_, rfl, by simpa [HLL.out] using row_new w s.size, (Below.refl _ _).alloc (Nat.le_refl _) _⟩, by simp⟩
  case round =>
    obtain ⟨i, hi, rfl, hfill, hall⟩ := hrel
    by_cases hlt : i < s.size
    · obtain ⟨zs, hz, hrow, hbel⟩ := hfill
      have hcell : wr.cell? ⟨w.heap.size, i, none⟩ = some (.int .u8 0) := hrow.cell (fillB_zero (by rw [HLL.out]; exact hlt) hz)
      have hfree := hrow.free i
      have hsi : s.data.toList[i]? = some (s[i]'hlt) := Lib.data_getElem? s i hlt
      have hC := sbyte_any al ((s[i]'hlt).toNat : Int)
      rw [u8_back] at hC
      have hp : Lib.indexByte al.data.toList (s[i]'hlt) = posB al (s[i]'hlt) := rfl
      rw [hp] at hC
      have hge := Lib.indexByte_ge al.data.toList (s[i]'hlt)
      rw [hp] at hge
      have hle : posB al (s[i]'hlt) < al.size ∨ posB al (s[i]'hlt) = -1 := by
        by_cases h : posB al (s[i]'hlt) = -1
        · exact .inr h
        · obtain ⟨o, ho⟩ : ∃ o : Nat, posB al (s[i]'hlt) = o := ⟨(posB al (s[i]'hlt)).toNat, by omega⟩
          have := (List.getElem?_eq_some_iff.1 (Lib.indexByte_some (by rw [hp]; exact ho)).1).1
          exact .inl (by rw [ho]; have h2 : al.data.toList.length = al.size := rfl; omega)
      have hat : ls[i]? = some (b8 (posB al (s[i]'hlt))) := by
        rw [HLS.out]; unfold placesB; rw [List.getElem?_map, hsi]; rfl
      obtain ⟨q, hq⟩ : ∃ q, q = posB al (s[i]'hlt) := ⟨_, rfl⟩
      rw [← hq] at hC hge hle hat
      have htk : s.data.toList.take (i + 1) = s.data.toList.take i ++ [s[i]'hlt] := by
        rw [List.take_add_one, hsi]; rfl
      have HC := Lib.hid hC
      have HQ := Lib.hid hq
      have HZ := Lib.hid hz
      have HR := Lib.hid hrow
      have HA := Lib.hid hat
      have HT := Lib.hid htk
      have HS := Lib.hid hsi
      clear hC hq hz hrow hat hp htk hsi
      by_cases hneg : q < 0
      · have hd : decide (q < 0) = true := decide_eq_true hneg
        go_wp2_with fail
        refine (HC.out _).mono ?_
        rintro e w' ⟨rfl, rfl⟩
        go_wp2
        go_ret2
        exact ⟨hbel, .inr ⟨⟨s[i]'hlt, List.mem_of_getElem? HS.out, by rw [← HQ.out]; exact hneg⟩, rfl⟩⟩
      · have hd : decide (q < 0) = false := decide_eq_false hneg
        have hw : IntKind.u8.wrap q = q := by rw [IntKind.wrap_u8]; omega
        go_wp2_with fail
        refine (HC.out _).mono ?_
        rintro e w' ⟨rfl, rfl⟩
        go_wp2
        refine ⟨⟨i + 1, by omega, by go_num, fillB_next (by rw [HLL.out]; exact hlt) HA.out HZ.out ?_ (hbel.setCell (Nat.le_refl _) _), ?_⟩, by simp [intOf]; omega⟩
        · have h1 := HR.out.set (i := i) (b8 q)
          rw [bv_b8_of (by omega) (by omega)] at h1
          exact h1
        · intro c hc
          rw [HT.out] at hc
          rcases List.mem_append.1 hc with h | h
          · exact hall c h
          · rw [List.mem_singleton.1 h, ← HQ.out]; omega
    · have hie : i = ls.length := by rw [HLL.out]; omega
      have hall2 : ∀ c ∈ s.data.toList, 0 ≤ posB al c := fun c hc => hall c (by rwa [List.take_of_length_le (by have h2 : s.data.toList.length = s.size := rfl; omega)])
      rw [hie] at hfill
      have HF := Lib.hid (fillB_end hfill)
      have HA := Lib.hid hall2
      clear hie hfill hall hall2
      go_wp2
      go_ret2
      exact ⟨HF.out.2, .inl ⟨HA.out, rfl, by rw [← HLS.out]; exact HF.out.1⟩⟩

end Go.Proofs.YtpaafkhlelljcaaDoor
