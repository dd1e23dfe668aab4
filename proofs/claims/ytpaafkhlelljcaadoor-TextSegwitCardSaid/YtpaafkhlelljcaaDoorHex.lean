/-
  text.Hex: two digits for each byte. Conditions: sizes within the reach.
-/
import Derived.Test.YtpaafkhlelljcaaDoorDig
namespace Go.Proofs.YtpaafkhlelljcaaDoor
open Go.RowKit

def nibs (c : UInt8) : List UInt8 := [b8 ((c.toNat : Int) / 16), b8 ((c.toNat : Int) % 16)]
def nibsOf (xs : List UInt8) : List UInt8 := xs.flatMap nibs
theorem nibsOf_length (xs : List UInt8) : (nibsOf xs).length = 2 * xs.length := by
  induction xs with
  | nil => rfl
  | cons c xs ih => unfold nibsOf at ih ⊢; rw [List.flatMap_cons, List.length_append, ih, List.length_cons]; simp [nibs]; omega
theorem nibsOf_snoc {xs : List UInt8} {i : Nat} {q : UInt8} (h : xs[i]? = some q) : nibsOf (xs.take (i + 1)) = nibsOf (xs.take i) ++ nibs q := by
  unfold nibsOf
  rw [List.take_add_one, h, List.flatMap_append]
  simp

theorem nibs_small {xs : List UInt8} {p : UInt8} (h : p ∈ nibsOf xs) : p.toNat < 22 := by
  unfold nibsOf at h
  obtain ⟨c, _, hc⟩ := List.mem_flatMap.1 h
  have hlt := c.toNat_lt
  have hb := b8_toNat ((c.toNat : Int) / 16)
  have hb2 := b8_toNat ((c.toNat : Int) % 16)
  unfold nibs at hc
  rcases List.mem_cons.1 hc with rfl | hc
  · omega
  · rw [List.mem_singleton.1 hc]
    omega

set_option maxRecDepth 100000 in
set_option maxHeartbeats 1600000 in
theorem hexp_any (B : Nat) (x : Value) (xs : List UInt8) (w : World) (hx : Byt w B x xs) (hB : B ≤ w.heap.size) (hl : xs.length ≤ 30000) :
    Calls Tryd.prog 23 #[x] w fun e w' => e = .returned (.string ⟨(letters ⟨#[48, 49, 50, 51, 52, 53, 54, 55, 56, 57, 97, 98, 99, 100, 101, 102, 65, 66, 67, 68, 69, 70]⟩ (nibsOf xs)).toArray⟩) ∧ Below w.heap.size w w' := by
  obtain ⟨i0, hi, hz0, hz1, hz2⟩ := info_parts info_u8
  obtain ⟨A, c, hxf⟩ := hx.form
  subst hxf
  obtain ⟨w0, hmk, hown0, hg0⟩ := run_make_own (P := Tryd.prog) w w.heap.size 22 5 i0 (.int .u8 0) 1 slice_u8 hi hz0 hz1 .i64 .i64 (2 * xs.length) (by rw [hz2]; omega) (by unfold maxLen; omega) (Nat.le_refl _)
  have hcast : (((2 * xs.length : Nat)) : Int) = 2 * (xs.length : Int) := by omega
  rw [hcast] at hmk
  have hb0 : Below w.heap.size w w0 := (Below.refl _ _).grown hg0 (Nat.le_refl _) (fun k hk => by cases hk)
  have hX := Lib.hid hx
  have HB0 := Lib.hid hb0
  clear hx hg0 hcast
  go_enter Tryd.func23, Tryd.ntmps23
  go_wp2_with fail
  clear hmk
  go_loopw [12, 3] (fun j v wr => ∃ i : Nat, i ≤ xs.length ∧ j = .int .i64 i ∧ wr.ownsRow w.heap.size 5 1 v (nibsOf (xs.take i)).length ((nibsOf (xs.take i)).map bv) ∧ Below w.heap.size w wr) (fun j _ _ => xs.length - (intOf j).toNat)
  case atStart => exact ⟨0, Nat.zero_le _, rfl, by simpa [nibsOf] using hown0, HB0.out⟩
  case round =>
    obtain ⟨i, hi2, rfl, hown, hbel⟩ := hrel
    by_cases hlt : i < xs.length
    · obtain ⟨A', c', e0, _, _, _, h4⟩ := hX.out
      injection e0 with e1 e2 e3
      subst e1 e3
      obtain ⟨b, o, rfl, hb, hbc⟩ := h4 (by rintro rfl; simp at hlt)
      have hci := hbc i _ (List.getElem?_eq_getElem hlt)
      obtain ⟨q, hq⟩ : ∃ q, q = xs[i] := ⟨_, rfl⟩
      rw [← hq] at hci
      have hbi : wr.cell? ⟨b, o + i, none⟩ = some (.int .u8 (q.toNat : Int)) := (hbel.cell (p := ⟨b, _, none⟩) (by show b < _; omega)).trans hci
      have hqi : xs[i]? = some q := by rw [hq]; exact List.getElem?_eq_getElem hlt
      have hsn := nibsOf_snoc hqi
      obtain ⟨zs, hzs⟩ : ∃ zs, zs = nibsOf (xs.take i) := ⟨_, rfl⟩
      have hzl : zs.length ≤ 60000 := by rw [hzs, nibsOf_length, List.length_take]; omega
      rw [← hzs] at hown hsn
      have hq256 := q.toNat_lt
      have hmade : Byt (wr.alloc (.cells #[.int .u8 ((q.toNat : Int) / 16), .int .u8 ((q.toNat : Int) % 16)] 5)) (wr.heap.size + 1) (.slice (some ⟨wr.heap.size, 0, none⟩) 2 2) (nibs q) :=
        Byt.made wr _ [_, _] (nibs q) (by unfold nibs; rw [List.map_cons, List.map_cons, List.map_nil, bv_b8_of (by omega) (by omega), bv_b8_of (by omega) (by omega)]) (by unfold maxLen; simp [nibs])
      obtain ⟨As, cs, rfl⟩ := own_form hown
      have hbs := hbel.size
      have HS := Lib.hid hsn
      clear hci hbc h4 hq hqi hsn hzs
      go_wp2_with (at_builtin; refine wpList_append_bytes rfl (.tmp 16) (.tmp 21) 22 rfl w.heap.size 5 i0 slice_u8 hi hz0 hz1 hz2 _ zs.length (zs.map bv) rfl (hown.alloc _) (wr.heap.size + 1) _ (nibs q) rfl hmade (by simp [nibs]; omega) (by simp; omega) ?_; intro v1 w1 hown1 hg1 hat1)
      have hb1 : Below w.heap.size w w1 := (hbel.alloc hbs _).grown hg1 (by simp; omega) (fun j hj => (hown.lt j hj).1)
      go_roundw
      case rel =>
        refine ⟨i + 1, by omega, by go_num, ?_, hb1⟩
        rw [HS.out, List.length_append, List.map_append]
        exact hown1
      case measure => simp [intOf]; omega
    · have hie : xs.take i = xs := List.take_of_length_le (by omega)
      rw [hie] at hown
      have hby := Byt.of_own hown
      obtain ⟨As, cs, rfl⟩ := own_form hown
      have hlen := nibsOf_length xs
      have hsp := spell_any wr.heap.size _ (nibsOf xs) ⟨#[48, 49, 50, 51, 52, 53, 54, 55, 56, 57, 97, 98, 99, 100, 101, 102, 65, 66, 67, 68, 69, 70]⟩ wr hby (Nat.le_refl _) (by omega) (fun p hp => nibs_small hp)
      have HSP := Lib.hid hsp
      clear hown hby hsp hie hlen
      go_wp2_with fail
      refine HSP.out.mono ?_
      rintro e w2 ⟨rfl, hb2⟩
      go_wp2
      go_ret
      exact ⟨rfl, hbel.trans (hb2.mono hbel.size)⟩

end Go.Proofs.YtpaafkhlelljcaaDoor
