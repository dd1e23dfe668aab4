/-
  The references' Spare and Kept: a copy with tinted room behind it, and whether it is still as it was. Conditions: sizes within the reach.
-/
import Derived.Test.YtpaafkhlelljcaaDoorOwn
namespace Go.Proofs.YtpaafkhlelljcaaDoor
open Go.RowKit

/-- The bytes, and nine tinted ones behind them. -/
def tinted (bs : List UInt8) : List UInt8 := bs ++ (List.range 9).map fun k => b8 (201 + (bs.length + k : Nat))
theorem tinted_length (bs : List UInt8) : (tinted bs).length = bs.length + 9 := by simp [tinted]
theorem tinted_low {bs : List UInt8} {i : Nat} (h : i < bs.length) : (tinted bs)[i]? = bs[i]? := by
  unfold tinted
  rw [List.getElem?_append_left h]
theorem tinted_high {bs : List UInt8} {i : Nat} (h : bs.length ≤ i) (h2 : i < bs.length + 9) : (tinted bs)[i]? = some (b8 (201 + (i : Int))) := by
  unfold tinted
  rw [List.getElem?_append_right h, List.getElem?_map, List.getElem?_range (by omega)]
  simp
  congr 1
  omega

/-- Behind i rounds: the first i bytes are as they will be, the rest is zero. -/
def Fill (w : World) (g i : Nat) (bs : List UInt8) (wr : World) : Prop :=
  ∃ zs, zs = (tinted bs).take i ++ List.replicate (bs.length + 9 - i) 0 ∧ Row wr g zs ∧ Below w.heap.size w wr

theorem fill_next {w wr w' : World} {g i : Nat} {bs zs : List UInt8} {c : UInt8} (hi : i < bs.length + 9) (hc : (tinted bs)[i]? = some c) (hz : zs = (tinted bs).take i ++ List.replicate (bs.length + 9 - i) 0)
    (hr : Row w' g (zs.set i c)) (_hb : Below w.heap.size w wr) (hb' : Below w.heap.size w w') : Fill w g (i + 1) bs w' :=
  ⟨_, set_next (by rw [tinted_length]; exact hi) hc hz (by rw [tinted_length]), hr, hb'⟩

theorem fill_zero {bs zs : List UInt8} {i : Nat} (hi : i < bs.length + 9) (hz : zs = (tinted bs).take i ++ List.replicate (bs.length + 9 - i) 0) : zs[i]? = some 0 := by
  subst hz
  have hl : ((tinted bs).take i).length = i := by rw [List.length_take, tinted_length]; omega
  rw [List.getElem?_append_right (by omega), hl, Nat.sub_self]
  obtain ⟨m, hm⟩ : ∃ m, bs.length + 9 - i = m + 1 := ⟨bs.length + 9 - i - 1, by omega⟩
  rw [hm, List.replicate_succ]
  rfl

set_option maxRecDepth 100000 in
set_option maxHeartbeats 1600000 in
theorem spare_any (B : Nat) (x : Value) (bs : List UInt8) (w : World) (hx : Byt w B x bs) (hB : B ≤ w.heap.size) (hl : bs.length ≤ 60000) :
    Calls Tryd.prog 10 #[x] w fun e w' => e = .returned (.tuple #[.slice (some ⟨w.heap.size, 0, none⟩) bs.length (bs.length + 9), .slice (some ⟨w.heap.size, 0, none⟩) (bs.length + 9) (bs.length + 9)]) ∧
      Row w' w.heap.size (tinted bs) ∧ Below w.heap.size w w' := by
  obtain ⟨A, c, hxf⟩ := hx.form
  subst hxf
  have hcap := hx.cap
  have hmk := fun W => make_bytes W (bs.length + 9) ((bs.length : Int) + 9) (by omega) (by omega)
  have hX := Lib.hid hx
  clear hx
  go_enter Tryd.func10, Tryd.ntmps10
  go_wp2_with fail
  clear hmk
  go_loopw [5] (fun s wr => ∃ i : Nat, i ≤ bs.length + 9 ∧ s = .int .i64 i ∧ Fill w w.heap.size i bs wr) (fun s _ => bs.length + 9 - (intOf s).toNat)
  case atStart => exact ⟨0, Nat.zero_le _, rfl, _, rfl, row_new w _, (Below.refl _ _).alloc (Nat.le_refl _) _⟩
  case round =>
    obtain ⟨i, hi, rfl, zs, hz, hrow, hbel⟩ := hrel
    by_cases hlt : i < bs.length + 9
    · have hcell : wr.cell? ⟨w.heap.size, i, none⟩ = some (.int .u8 0) := hrow.cell (fill_zero hlt hz)
      have hfree := hrow.free i
      by_cases hlow : i < bs.length
      · obtain ⟨A', c', e0, _, _, _, h4⟩ := hX.out
        injection e0 with e1 e2 e3
        subst e1 e3
        obtain ⟨b, o, rfl, hb, hbc⟩ := h4 (by rintro rfl; simp at hlow)
        have hci := hbc i _ (List.getElem?_eq_getElem hlow)
        obtain ⟨q, hq⟩ : ∃ q, q = bs[i] := ⟨_, rfl⟩
        rw [← hq] at hci
        have hbi : ∀ u, (wr.setCell ⟨w.heap.size, i, none⟩ u).cell? ⟨b, o + i, none⟩ = some (.int .u8 (q.toNat : Int)) := fun u =>
          (World.cell?_setCell_other _ _ _ _ (by intro e; injection e with e; omega)).trans ((hbel.cell (p := ⟨b, _, none⟩) (by show b < _; omega)).trans hci)
        have HQ := Lib.hid hq
        have HZ := Lib.hid hz
        have HR := Lib.hid hrow
        clear hq hz hrow hci hbc h4
        go_wp2
        refine ⟨⟨i + 1, by omega, by go_num, ?_⟩, ?_⟩
        · refine fill_next hlt (c := q) ?_ HZ.out ?_ hbel ((hbel.setCell (Nat.le_refl _) _).setCell (Nat.le_refl _) _)
          · rw [tinted_low hlow, HQ.out]; exact List.getElem?_eq_getElem hlow
          · have h1 := (HR.out.set (i := i) (b8 (201 + (i : Int)))).set (i := i) q
            rw [List.set_set, bv_b8] at h1
            exact h1
        · simp [intOf]; omega
      · have HZ := Lib.hid hz
        have HR := Lib.hid hrow
        clear hz hrow
        go_wp2
        refine ⟨⟨i + 1, by omega, by go_num, ?_⟩, ?_⟩
        · refine fill_next hlt (c := b8 (201 + (i : Int))) (tinted_high (by omega) hlt) HZ.out ?_ hbel (hbel.setCell (Nat.le_refl _) _)
          have h1 := HR.out.set (i := i) (b8 (201 + (i : Int)))
          rw [bv_b8] at h1
          exact h1
        · simp [intOf]; omega
    · go_wp2
      go_ret2
      have hie : i = bs.length + 9 := by omega
      subst hie
      rw [Nat.sub_self, List.replicate_zero, List.append_nil, List.take_of_length_le (Nat.le_of_eq (tinted_length bs))] at hz
      subst hz
      exact ⟨rfl, hrow, hbel⟩

end Go.Proofs.YtpaafkhlelljcaaDoor
