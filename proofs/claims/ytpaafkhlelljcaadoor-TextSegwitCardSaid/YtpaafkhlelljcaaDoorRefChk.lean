/-
  The reference's Checksum. Conditions: sizes within the reach.
-/
import Derived.Test.YtpaafkhlelljcaaDoorTurn
import Derived.Test.YtpaafkhlelljcaaDoorChk2
namespace Go.Proofs.YtpaafkhlelljcaaDoor
open Go.RowKit

/-- What the reference's Checksum answers. -/
def RefChkPost (w : World) (cs : List UInt8) (e : Ending) (w' : World) : Prop :=
  Below w.heap.size w w' ∧ ((∀ c ∈ cs, 0 ≤ posB inB c) ∧ e = .returned (.tuple #[.string ⟨(sumLetters (chkN (natsOf (placesB inB cs)))).toArray⟩, .bool true]) ∨ (∃ c ∈ cs, posB inB c < 0) ∧ e = .returned (.tuple #[.string ⟨#[]⟩, .bool false]))

def turnK (c : Nat) : Nat → Nat
  | 0 => c
  | k + 1 => turnN (turnK c k) 0
theorem turnK_lt (c : Nat) (hc : c < 1099511627776) : ∀ k, turnK c k < 1099511627776
  | 0 => hc
  | k + 1 => turnN_lt _ _ (by omega)
theorem turnK_eight (c : Nat) : turnK c 8 = eight c := rfl

/-- The first letters of a sum, the i-th stands for the bits from 5 * (7 - i) on. -/
def someLetters (c n : Nat) : List UInt8 := (List.range n).map fun i => l32.data.toList.getD (c / 2 ^ (5 * (7 - i)) % 32) 0
theorem someLetters_all (c : Nat) : someLetters c 8 = sumLetters c := by
  unfold someLetters sumLetters eightOf
  rw [List.map_map]
  rfl
theorem someLetters_succ (c n : Nat) : someLetters c (n + 1) = someLetters c n ++ [l32.data.toList.getD (c / 2 ^ (5 * (7 - n)) % 32) 0] := by
  unfold someLetters
  rw [List.range_succ, List.map_append]
  rfl
theorem l32_at {v : Nat} (h : v < 32) : l32.data.toList.getD v 0 = l32[v]'(by show v < l32.size; exact h) := by
  have h2 := Lib.data_getElem? l32 v h
  rw [List.getD_eq_getElem?_getD, h2]
  rfl
theorem posB_range (al : ByteArray) (c : UInt8) : -1 ≤ posB al c ∧ posB al c < al.size := by
  have hge := Lib.indexByte_ge al.data.toList c
  have e : posB al c = Lib.indexByte al.data.toList c := rfl
  refine ⟨by omega, ?_⟩
  by_cases h : posB al c < 0
  · have : 0 ≤ al.size := Nat.zero_le _
    omega
  · obtain ⟨o, ho⟩ : ∃ o : Nat, posB al c = o := ⟨(posB al c).toNat, by omega⟩
    have := (List.getElem?_eq_some_iff.1 (Lib.indexByte_some (l := al.data.toList) (by exact ho)).1).1
    have h2 : al.data.toList.length = al.size := rfl
    omega
theorem natsOf_at {al : ByteArray} {cs : List UInt8} {i : Nat} {c : UInt8} (h : cs[i]? = some c) (h0 : 0 ≤ posB al c) (hs : al.size ≤ 255) : (natsOf (placesB al cs))[i]? = some (posB al c).toNat := by
  unfold natsOf placesB
  rw [List.map_map, List.getElem?_map, h]
  have h1 := posB_range al c
  have h2 := b8_toNat (posB al c)
  show some (b8 (posB al c)).toNat = _
  congr 1
  omega
theorem chkAll_at {ps : List Nat} {i p : Nat} (h : ps[i]? = some p) : chkAll (ps.take (i + 1)) = chk1 (chkAll (ps.take i)) p := by
  unfold chkAll
  rw [List.take_add_one, h, List.foldl_append]
  rfl

/-- A byte that has just been laid, as a text. -/
theorem one_str8 (W : World) (q : UInt8) :
    (convert 22 9 (.slice (some ⟨W.heap.size, 0, none⟩) 1 1)).run Tryd.prog (W.alloc (.cells #[.int .u8 (q.toNat : Int)] 5)) = .ok (.string ⟨#[q]⟩) (W.alloc (.cells #[.int .u8 (q.toNat : Int)] 5)) :=
  run_string_of (P := Tryd.prog) _ 22 9 5 Tryd.underlying22 Tryd.underlying5 Tryd.underlying9 _ _ _ (Byt.made W 5 _ [q] rfl (by unfold maxLen; simp))
theorem str_join {l : List UInt8} {c : UInt8} : (⟨l.toArray⟩ : ByteArray) ++ ⟨#[c]⟩ = ⟨(l ++ [c]).toArray⟩ := by
  apply Go.WideShapes.bytes_inj
  simp

end Go.Proofs.YtpaafkhlelljcaaDoor
