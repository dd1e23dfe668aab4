/-
  hash.FromText: 64 digits, two for each byte, from the last. Conditions: sizes within the reach.
-/
import Derived.Test.YtnmegdhidpkklaaDoorHTextRef
import Derived.Test.YtnmegdhidpkklaaDoorDouble
import Derived.Lib.Bytealg
namespace Go.Proofs.YtnmegdhidpkklaaDoor
open Go.RowKit

set_option maxRecDepth 100000 in
set_option maxHeartbeats 800000 in
theorem slite_any (s : ByteArray) (c : Int) (w : World) :
    Calls Tryd.prog 73 #[.string s, .int .u8 c] w fun e w' => e = .returned (.int .i64 (Lib.indexByte s.data.toList c.toNat.toUInt8)) ∧ w = w' := by
  go_enter Tryd.func73, Tryd.ntmps73
  go_wp2
  rw [run_callFunc_extern Tryd.func88 (by kernel_rfl) (by kernel_rfl) (by kernel_rfl) (e := Extern.BytealgIndexByte.indexByte) (by kernel_rfl), Lib.run_indexByteString]
  simp only [Result.andThen]
  rw [Oper.upon_value]
  go_wp2
  go_ret
  exact ⟨rfl, rfl⟩

set_option maxRecDepth 100000 in
set_option maxHeartbeats 800000 in
theorem sbyte_any (s : ByteArray) (c : Int) (w : World) :
    Calls Tryd.prog 54 #[.string s, .int .u8 c] w fun e w' => e = .returned (.int .i64 (Lib.indexByte s.data.toList c.toNat.toUInt8)) ∧ w = w' := by
  have C := Lib.hid (slite_any s c)
  go_enter Tryd.func54, Tryd.ntmps54
  go_wp2_with fail
  refine (C.out _).mono ?_
  rintro e w' ⟨rfl, rfl⟩
  go_wp2
  go_ret
  exact ⟨rfl, rfl⟩


theorem u8_back (c : UInt8) : ((c.toNat : Int)).toNat.toUInt8 = c := by simp
theorem results_row_tmp {P : Program} {fn : Func} {p u : Tmp} {ty : TypeId} (h : fn.results = #[.cell p ty, .tmp u]) (tmps : Array Value) (w : World) (g : Nat) (t : TypeId) (cs : Array Value) (fr : Nat × Nat) (d : TypeDesc) (x : Value)
    (hp : tmps.getD p undef = .pointer (some ⟨g, 0, none⟩)) (hx : tmps.getD u undef = x) (hg : w.heap[g]? = some (.cells cs t fr))
    (hu : P.underlying ty = some d) (hd : (match d with | .struct _ | .array _ _ => true | _ => false) = true) (hi : (P.info? ty).map (·.size) = some cs.size) :
    (results fn tmps).run P w = .ok (.tuple #[.agg cs, x]) w := by
  have hp' : tmps[p]?.getD undef = .pointer (some ⟨g, 0, none⟩) := by simpa using hp
  have hx' : tmps[u]?.getD undef = x := by simpa using hx
  simp [results, h, hp', hx', asAddr, run_loadVar_row w g t ty cs fr d hg hu hd hi]

/-- The value of a digit; below 0: none. -/
def digs : ByteArray := ⟨#[48, 49, 50, 51, 52, 53, 54, 55, 56, 57, 97, 98, 99, 100, 101, 102]⟩
def posH (c : UInt8) : Int := Lib.indexByte digs.data.toList c
def posV (c : UInt8) : Int := if 48 ≤ c.toNat ∧ c.toNat ≤ 57 then (c.toNat : Int) - 48 else if 97 ≤ c.toNat ∧ c.toNat ≤ 102 then (c.toNat : Int) - 87 else -1
theorem posH_all : ∀ n : Fin 256, posH (UInt8.ofNat n.val) = posV (UInt8.ofNat n.val) := by decide +kernel
theorem posH_eq (c : UInt8) : posH c = posV c := by
  have h := posH_all ⟨c.toNat, c.toNat_lt⟩
  simpa using h
theorem posH_lt (c : UInt8) : posH c < 16 ∧ -1 ≤ posH c := by
  rw [posH_eq]; unfold posV
  split
  · omega
  · split <;> omega
/-- Two digits a byte. -/
def decH : List UInt8 → List UInt8
  | a :: b :: r => b8 (posH a * 16 + posH b) :: decH r
  | _ => []
def fromB (cs : List UInt8) : List UInt8 := (decH cs).reverse
def GoodT (cs : List UInt8) : Prop := cs.length = 64 ∧ ∀ c ∈ cs, 0 ≤ posH c
theorem decH_length : ∀ (n : Nat) (cs : List UInt8), cs.length = 2 * n → (decH cs).length = n
  | 0, cs, h => by
    have : cs = [] := List.eq_nil_of_length_eq_zero (by omega)
    subst this
    rfl
  | n + 1, a :: b :: r, h => by
    rw [decH, List.length_cons, decH_length n r (by simp only [List.length_cons] at h; omega)]
  | n + 1, [a], h => by simp at h; omega
  | n + 1, [], h => by simp at h
theorem decH_snoc : ∀ (n : Nat) (cs : List UInt8) (a b : UInt8), cs.length = 2 * n → decH (cs ++ [a, b]) = decH cs ++ [b8 (posH a * 16 + posH b)]
  | 0, cs, a, b, h => by
    have : cs = [] := List.eq_nil_of_length_eq_zero (by omega)
    subst this
    rfl
  | n + 1, x :: y :: r, a, b, h => by
    have ih := decH_snoc n r a b (by simp only [List.length_cons] at h; omega)
    show _ :: decH (r ++ [a, b]) = _ :: decH r ++ _
    rw [ih]
    rfl
  | n + 1, [x], _, _, h => by simp at h; omega
  | n + 1, [], _, _, h => by simp at h
theorem dig_posV (v : Nat) (h : v < 16) : posH (b8 (digN v : Nat)) = v := by
  have h2 : ∀ n : Fin 16, posH (b8 (digN n.val : Nat)) = n.val := by decide +kernel
  exact h2 ⟨v, h⟩
theorem posV_dig (c : UInt8) (h : 0 ≤ posH c) : b8 (digN (posH c).toNat : Nat) = c := by
  have h2 : ∀ n : Fin 256, 0 ≤ posH (UInt8.ofNat n.val) → b8 (digN (posH (UInt8.ofNat n.val)).toNat : Nat) = UInt8.ofNat n.val := by decide +kernel
  have h3 := h2 ⟨c.toNat, c.toNat_lt⟩
  simp only [UInt8.ofNat_toNat] at h3
  exact h3 h
theorem dec_hexL (q : UInt8) : b8 (posH (b8 (digN (q.toNat / 16) : Nat)) * 16 + posH (b8 (digN (q.toNat % 16) : Nat))) = q := by
  have hq := q.toNat_lt
  rw [dig_posV _ (by omega), dig_posV _ (by omega)]
  apply UInt8.toNat_inj.1
  have := b8_toNat (((q.toNat / 16 : Nat) : Int) * 16 + ((q.toNat % 16 : Nat) : Int))
  omega
theorem decH_hex : ∀ l : List UInt8, decH (l.flatMap hexL) = l
  | [] => rfl
  | q :: l => by
    rw [List.flatMap_cons]
    show b8 (posH (b8 (digN (q.toNat / 16) : Nat)) * 16 + posH (b8 (digN (q.toNat % 16) : Nat))) :: decH (l.flatMap hexL) = _
    rw [dec_hexL, decH_hex l]
theorem fromB_text (bs : List UInt8) : fromB (textB bs) = bs := by unfold fromB textB; rw [decH_hex, List.reverse_reverse]
theorem good_text {bs : List UInt8} (h : bs.length = 32) : GoodT (textB bs) := by
  refine ⟨by rw [textB_length, h], fun c hc => ?_⟩
  unfold textB at hc
  obtain ⟨q, _, hq⟩ := List.mem_flatMap.1 hc
  have hq2 := q.toNat_lt
  simp only [hexL, List.mem_cons, List.not_mem_nil, or_false] at hq
  rcases hq with rfl | rfl
  · rw [dig_posV _ (by omega)]; omega
  · rw [dig_posV _ (by omega)]; omega
theorem hexL_dec (a b : UInt8) (ha : 0 ≤ posH a) (hb : 0 ≤ posH b) : hexL (b8 (posH a * 16 + posH b)) = [a, b] := by
  have la := posH_lt a
  have lb := posH_lt b
  have h := b8_toNat (posH a * 16 + posH b)
  have e1 : (b8 (posH a * 16 + posH b)).toNat / 16 = (posH a).toNat := by omega
  have e2 : (b8 (posH a * 16 + posH b)).toNat % 16 = (posH b).toNat := by omega
  unfold hexL
  rw [e1, e2, posV_dig a ha, posV_dig b hb]
theorem hex_decH : ∀ (n : Nat) (cs : List UInt8), cs.length = 2 * n → (∀ c ∈ cs, 0 ≤ posH c) → (decH cs).flatMap hexL = cs
  | 0, cs, h, _ => by
    have : cs = [] := List.eq_nil_of_length_eq_zero (by omega)
    subst this
    rfl
  | n + 1, a :: b :: r, h, hg => by
    rw [decH, List.flatMap_cons, hexL_dec a b (hg a (by simp)) (hg b (by simp)), hex_decH n r (by simp only [List.length_cons] at h; omega) (fun c hc => hg c (by simp [hc]))]
    rfl
  | n + 1, [x], h, _ => by simp at h; omega
  | n + 1, [], h, _ => by simp at h
theorem text_fromB {cs : List UInt8} (h : GoodT cs) : textB (fromB cs) = cs := by
  unfold textB fromB
  rw [List.reverse_reverse]
  exact hex_decH 32 cs h.1 h.2
theorem fromB_length {cs : List UInt8} (h : cs.length = 64) : (fromB cs).length = 32 := by
  unfold fromB
  rw [List.length_reverse, decH_length 32 cs h]
end Go.Proofs.YtnmegdhidpkklaaDoor
