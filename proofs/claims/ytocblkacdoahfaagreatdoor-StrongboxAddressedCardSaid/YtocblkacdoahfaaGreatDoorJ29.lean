/-
  Texts joined: FromHex, FromHex2, B58. Conditions: those of each.
-/
import Derived.Test.YtocblkacdoahfaaGreatDoorJ28
import Derived.Test.YtocblkacdoahfaaGreatDoorJ25
import Derived.Test.YtocblkacdoahfaaGreatDoorJ22
/-
  text.FromHex, and the reference's. Conditions: sizes within the reach.
-/
namespace Go.Proofs.YtocblkacdoahfaaGreatDoor.Tx
open Go.RowKit

def pairB (cs : List UInt8) (k : Nat) : UInt8 := b8 (16 * valB (cs.getD (2 * k) 0) + valB (cs.getD (2 * k + 1) 0))
def outL (cs : List UInt8) (n : Nat) : List UInt8 := (List.range n).map (pairB cs)
def GoodHex (cs : List UInt8) : Prop := cs.length % 2 = 0 ∧ ∀ c ∈ cs, 0 ≤ valB c
theorem outL_length (cs : List UInt8) (n : Nat) : (outL cs n).length = n := by simp [outL]
theorem outL_succ (cs : List UInt8) (n : Nat) : outL cs (n + 1) = outL cs n ++ [pairB cs n] := by simp [outL, List.range_succ]
theorem outL_take (cs : List UInt8) {k n : Nat} (h : k ≤ n) : (outL cs n).take k = outL cs k := by
  unfold outL
  rw [← List.map_take, List.take_range, Nat.min_eq_left h]
theorem outL_at (cs : List UInt8) {k n : Nat} (h : k < n) : (outL cs n)[k]? = some (pairB cs k) := by
  unfold outL
  rw [List.getElem?_map, List.getElem?_range h]
  rfl

/-- What the reference's FromHex answers. -/
def RefFromPost (w : World) (cs : List UInt8) (e : Ending) (w' : World) : Prop :=
  Below w.heap.size w w' ∧ (GoodHex cs ∧ (∃ v, e = .returned (.tuple #[v, .bool true]) ∧ w'.ownsRow w.heap.size 5 1 v (outL cs (cs.length / 2)).length ((outL cs (cs.length / 2)).map bv)) ∨
    ¬ GoodHex cs ∧ e = .returned (.tuple #[.slice none 0 0, .bool false]))

end Go.Proofs.YtocblkacdoahfaaGreatDoor.Tx

/-
  text.FromHex. Conditions: sizes within the reach.
-/
namespace Go.Proofs.YtocblkacdoahfaaGreatDoor.Tx
open Go.RowKit

/-- What FromHex answers. -/
def FromPost (w : World) (cs : List UInt8) (e : Ending) (w' : World) : Prop :=
  Below w.heap.size w w' ∧ (GoodHex cs ∧ (∃ g n, n = cs.length / 2 ∧ e = .returned (.tuple #[.slice (some ⟨g, 0, none⟩) n n, .int .i64 0]) ∧ Row w' g (outL cs n)) ∨
    ¬ GoodHex cs ∧ e = .returned (.tuple #[.slice none 0 0, .int .i64 3]))

theorem val_pos {c : UInt8} : 0 ≤ valB c ↔ 0 ≤ posB hexD c := by
  have hge := Lib.indexByte_ge hexD.data.toList c
  have e : posB hexD c = Lib.indexByte hexD.data.toList c := rfl
  unfold valB
  simp only
  split
  · omega
  · split <;> omega
theorem pos_lt (c : UInt8) : posB hexD c < 22 := by
  have hge := Lib.indexByte_ge hexD.data.toList c
  by_cases h : posB hexD c < 0
  · omega
  · obtain ⟨o, ho⟩ : ∃ o : Nat, posB hexD c = o := ⟨(posB hexD c).toNat, by omega⟩
    have := (List.getElem?_eq_some_iff.1 (Lib.indexByte_some (l := hexD.data.toList) (by exact ho)).1).1
    have h2 : hexD.data.toList.length = 22 := by decide
    omega
end Go.Proofs.YtocblkacdoahfaaGreatDoor.Tx

/-
  text.Base58; and the fixed fact of the laws on texts comes out true. Conditions: the listed table holds what its text lays; sizes within the reach.
-/
namespace Go.Proofs.YtocblkacdoahfaaGreatDoor
open Go.RowKit

def b58D : ByteArray := ⟨#[49, 50, 51, 52, 53, 54, 55, 56, 57, 65, 66, 67, 68, 69, 70, 71, 72, 74, 75, 76, 77, 78, 80, 81, 82, 83, 84, 85, 86, 87, 88, 89, 90, 97, 98, 99, 100, 101, 102, 103, 104, 105, 106, 107, 109, 110, 111, 112, 113, 114, 115, 116, 117, 118, 119, 120, 121, 122]⟩
theorem reb_small {b f : Nat} {ds out : List UInt8} (h : RebOf b f ds out) (h0 : 0 < b) (h1 : b ≤ 256) : ∀ d ∈ out, d.toNat < b := by
  obtain ⟨asc, ⟨k, rfl, _, _⟩, rfl⟩ := h
  intro d hd
  rcases List.mem_append.1 hd with h | h
  · rw [List.eq_of_mem_replicate h]
    exact h0
  · rw [List.mem_reverse] at h
    unfold digitsL at h
    obtain ⟨j, _, rfl⟩ := List.mem_map.1 h
    rw [digN_nat h0 h1]
    exact Nat.mod_lt _ h0
theorem reb_length {b f : Nat} {ds out : List UInt8} (h : RebOf b f ds out) (hb : 2 ≤ b) (hf : f ≤ 256) (hf0 : 0 < f) (hd : ∀ d ∈ ds, d.toNat < f) : out.length ≤ 9 * ds.length := by
  obtain ⟨asc, ha, rfl⟩ := h
  have h1 := valF_lt hf hf0 (ds.drop (zerosN ds)) (fun d h => hd d (List.mem_of_mem_drop h))
  have h2 := ha.short hb h1
  have h3 := zerosN_le ds
  rw [List.length_drop] at h2
  rw [List.length_append, List.length_replicate, List.length_reverse]
  omega
theorem RebOf.unique {b f : Nat} {ds x y : List UInt8} (hx : RebOf b f ds x) (hy : RebOf b f ds y) : x = y := by
  obtain ⟨a, ha, rfl⟩ := hx
  obtain ⟨c, hc, rfl⟩ := hy
  rw [ha.unique hc]

set_option maxRecDepth 100000 in
set_option maxHeartbeats 800000 in
theorem base58_any (B : Nat) (x : Value) (ds : List UInt8) (w : World) (hx : Byt w B x ds) (hB : B ≤ w.heap.size) (hl : ds.length ≤ 6000) :
    Calls Tryz.prog 43 #[x] w fun e w' => ∃ out, e = .returned (.string ⟨(letters b58D out).toArray⟩) ∧ RebOf 58 256 ds out ∧ Below w.heap.size w w' := by
  have hd : ∀ d ∈ ds, d.toNat < 256 := fun d _ => d.toNat_lt
  have C := reb_any B x ds 256 58 w hx hB (by omega) (by omega) (by omega) (by omega) (by omega) hd
  obtain ⟨A, c, hxf⟩ := hx.form
  subst hxf
  have HC := Lib.hid C
  have HD := Lib.hid hd
  clear C hd
  go_enter Tryz.func43, Tryz.ntmps43
  go_wp2_with fail
  refine HC.out.mono ?_
  rintro e w1 ⟨v, out, rfl, hreb, hown, hb1⟩
  have hol := reb_length hreb (by omega) (by omega) (by omega) HD.out
  have hsp := spell_any _ v out b58D w1 hown.byt (Nat.le_refl _) (by omega) (fun p hp => reb_small hreb (by omega) (by omega) p hp)
  have HS := Lib.hid hsp
  have HR := Lib.hid hreb
  obtain ⟨A1, c1, rfl⟩ := hown.form
  clear hsp hreb hown hol
  go_wp2_with fail
  refine HS.out.mono ?_
  rintro e w2 ⟨rfl, hb2⟩
  go_wp2
  go_ret
  exact ⟨out, rfl, HR.out, hb1.trans (hb2.mono hb1.size)⟩

theorem asc_one : AscOf 58 1 [1] := ⟨1, by decide, by decide, fun j hj => by
  have : j = 0 := by omega
  subst this; decide⟩
theorem reb_001 {out : List UInt8} (h : RebOf 58 256 [0, 0, 1] out) : out = [0, 0, 1] := by
  refine h.unique ⟨[1], ?_, by decide⟩
  exact asc_one

theorem bytes_two {s : ByteArray} {l : List UInt8} (h : s.data.toList = l) : s = ⟨l.toArray⟩ := Go.WideShapes.bytes_inj (by rw [h])

end Go.Proofs.YtocblkacdoahfaaGreatDoor
