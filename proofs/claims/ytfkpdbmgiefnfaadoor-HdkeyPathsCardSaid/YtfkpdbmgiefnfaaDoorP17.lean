/-
  Texts joined: FromT, HkMinus, HkValid. Conditions: those of each.
-/
import Derived.Test.YtfkpdbmgiefnfaaDoorP16
import Derived.Test.YtfkpdbmgiefnfaaDoorP15
import Derived.Lib.Bytealg
import Derived.Shelf.Spec.BitsCarry
import Derived.DeepKeys
import Derived.Deep.MidRow
/-
  hash.FromText: 64 digits, two for each byte, from the last. Conditions: sizes within the reach.
-/
namespace Go.Proofs.YtfkpdbmgiefnfaaDoor
open Go.RowKit

set_option maxRecDepth 100000 in
set_option maxHeartbeats 800000 in
theorem slite_any (s : ByteArray) (c : Int) (w : World) :
    Calls Tryd.prog 62 #[.string s, .int .u8 c] w fun e w' => e = .returned (.int .i64 (Lib.indexByte s.data.toList c.toNat.toUInt8)) ∧ w = w' := by
  go_enter Tryd.func62, Tryd.ntmps62
  go_wp2
  rw [run_callFunc_extern Tryd.func79 (by kernel_rfl) (by kernel_rfl) (by kernel_rfl) (e := Extern.BytealgIndexByte.indexByte) (by kernel_rfl), Lib.run_indexByteString]
  simp only [Result.andThen]
  rw [Oper.upon_value]
  go_wp2
  go_ret
  exact ⟨rfl, rfl⟩

set_option maxRecDepth 100000 in
set_option maxHeartbeats 800000 in
theorem sbyte_any (s : ByteArray) (c : Int) (w : World) :
    Calls Tryd.prog 39 #[.string s, .int .u8 c] w fun e w' => e = .returned (.int .i64 (Lib.indexByte s.data.toList c.toNat.toUInt8)) ∧ w = w' := by
  have C := Lib.hid (slite_any s c)
  go_enter Tryd.func39, Tryd.ntmps39
  go_wp2_with fail
  refine (C.out _).mono ?_
  rintro e w' ⟨rfl, rfl⟩
  go_wp2
  go_ret
  exact ⟨rfl, rfl⟩


theorem u8_back (c : UInt8) : ((c.toNat : Int)).toNat.toUInt8 = c := by simp
theorem results_row_tmp {P : Program} {fn : Func} {p u : Tmp} {ty : TypeId} (h : fn.results = #[.cell p ty, .tmp u]) (tmps : Array Value) (w : World) (g : Nat) (t : TypeId) (cs : Array Value) (fr : Nat × Nat) (d : TypeDesc) (x : Value)
    (hp : tmps.getD p undef = .pointer (some ⟨g, 0, none⟩)) (hx : tmps.getD u undef = x) (hg : w.heap[g]? = some (.cells cs t fr))
    (hu : P.underlying ty = some d) (hd : (match d with | .struct _ | .array _ _ => true | _ => false) = true) (hi : (P.info? ty).map (·.size) = some cs.size) :
    (results fn tmps).run P w = .ok (.tuple #[.agg cs, x]) w := by
  have hp' : tmps[p]?.getD undef = .pointer (some ⟨g, 0, none⟩) := by simpa using hp
  have hx' : tmps[u]?.getD undef = x := by simpa using hx
  simp [results, h, hp', hx', asAddr, run_loadVar_row w g t ty cs fr d hg hu hd hi]

/-- The value of a digit; below 0: none. -/
def digs : ByteArray := ⟨#[48, 49, 50, 51, 52, 53, 54, 55, 56, 57, 97, 98, 99, 100, 101, 102]⟩
def posH (c : UInt8) : Int := Lib.indexByte digs.data.toList c
def posV (c : UInt8) : Int := if 48 ≤ c.toNat ∧ c.toNat ≤ 57 then (c.toNat : Int) - 48 else if 97 ≤ c.toNat ∧ c.toNat ≤ 102 then (c.toNat : Int) - 87 else -1
theorem posH_all : ∀ n : Fin 256, posH (UInt8.ofNat n.val) = posV (UInt8.ofNat n.val) := by decide +kernel
theorem posH_eq (c : UInt8) : posH c = posV c := by
  have h := posH_all ⟨c.toNat, c.toNat_lt⟩
  simpa using h
theorem posH_lt (c : UInt8) : posH c < 16 ∧ -1 ≤ posH c := by
  rw [posH_eq]; unfold posV
  split
  · omega
  · split <;> omega
/-- Two digits a byte. -/
def decH : List UInt8 → List UInt8
  | a :: b :: r => b8 (posH a * 16 + posH b) :: decH r
  | _ => []
def fromB (cs : List UInt8) : List UInt8 := (decH cs).reverse
def GoodT (cs : List UInt8) : Prop := cs.length = 64 ∧ ∀ c ∈ cs, 0 ≤ posH c
theorem decH_length : ∀ (n : Nat) (cs : List UInt8), cs.length = 2 * n → (decH cs).length = n
  | 0, cs, h => by
    have : cs = [] := List.eq_nil_of_length_eq_zero (by omega)
    subst this
    rfl
  | n + 1, a :: b :: r, h => by
    rw [decH, List.length_cons, decH_length n r (by simp only [List.length_cons] at h; omega)]
  | n + 1, [a], h => by simp at h; omega
  | n + 1, [], h => by simp at h
theorem decH_snoc : ∀ (n : Nat) (cs : List UInt8) (a b : UInt8), cs.length = 2 * n → decH (cs ++ [a, b]) = decH cs ++ [b8 (posH a * 16 + posH b)]
  | 0, cs, a, b, h => by
    have : cs = [] := List.eq_nil_of_length_eq_zero (by omega)
    subst this
    rfl
  | n + 1, x :: y :: r, a, b, h => by
    have ih := decH_snoc n r a b (by simp only [List.length_cons] at h; omega)
    show _ :: decH (r ++ [a, b]) = _ :: decH r ++ _
    rw [ih]
    rfl
  | n + 1, [x], _, _, h => by simp at h; omega
  | n + 1, [], _, _, h => by simp at h
theorem dig_posV (v : Nat) (h : v < 16) : posH (b8 (digN v : Nat)) = v := by
  have h2 : ∀ n : Fin 16, posH (b8 (digN n.val : Nat)) = n.val := by decide +kernel
  exact h2 ⟨v, h⟩
theorem posV_dig (c : UInt8) (h : 0 ≤ posH c) : b8 (digN (posH c).toNat : Nat) = c := by
  have h2 : ∀ n : Fin 256, 0 ≤ posH (UInt8.ofNat n.val) → b8 (digN (posH (UInt8.ofNat n.val)).toNat : Nat) = UInt8.ofNat n.val := by decide +kernel
  have h3 := h2 ⟨c.toNat, c.toNat_lt⟩
  simp only [UInt8.ofNat_toNat] at h3
  exact h3 h
theorem dec_hexL (q : UInt8) : b8 (posH (b8 (digN (q.toNat / 16) : Nat)) * 16 + posH (b8 (digN (q.toNat % 16) : Nat))) = q := by
  have hq := q.toNat_lt
  rw [dig_posV _ (by omega), dig_posV _ (by omega)]
  apply UInt8.toNat_inj.1
  have := b8_toNat (((q.toNat / 16 : Nat) : Int) * 16 + ((q.toNat % 16 : Nat) : Int))
  omega
theorem decH_hex : ∀ l : List UInt8, decH (l.flatMap hexL) = l
  | [] => rfl
  | q :: l => by
    rw [List.flatMap_cons]
    show b8 (posH (b8 (digN (q.toNat / 16) : Nat)) * 16 + posH (b8 (digN (q.toNat % 16) : Nat))) :: decH (l.flatMap hexL) = _
    rw [dec_hexL, decH_hex l]
theorem fromB_text (bs : List UInt8) : fromB (textB bs) = bs := by unfold fromB textB; rw [decH_hex, List.reverse_reverse]
theorem good_text {bs : List UInt8} (h : bs.length = 32) : GoodT (textB bs) := by
  refine ⟨by rw [textB_length, h], fun c hc => ?_⟩
  unfold textB at hc
  obtain ⟨q, _, hq⟩ := List.mem_flatMap.1 hc
  have hq2 := q.toNat_lt
  simp only [hexL, List.mem_cons, List.not_mem_nil, or_false] at hq
  rcases hq with rfl | rfl
  · rw [dig_posV _ (by omega)]; omega
  · rw [dig_posV _ (by omega)]; omega
theorem hexL_dec (a b : UInt8) (ha : 0 ≤ posH a) (hb : 0 ≤ posH b) : hexL (b8 (posH a * 16 + posH b)) = [a, b] := by
  have la := posH_lt a
  have lb := posH_lt b
  have h := b8_toNat (posH a * 16 + posH b)
  have e1 : (b8 (posH a * 16 + posH b)).toNat / 16 = (posH a).toNat := by omega
  have e2 : (b8 (posH a * 16 + posH b)).toNat % 16 = (posH b).toNat := by omega
  unfold hexL
  rw [e1, e2, posV_dig a ha, posV_dig b hb]
theorem hex_decH : ∀ (n : Nat) (cs : List UInt8), cs.length = 2 * n → (∀ c ∈ cs, 0 ≤ posH c) → (decH cs).flatMap hexL = cs
  | 0, cs, h, _ => by
    have : cs = [] := List.eq_nil_of_length_eq_zero (by omega)
    subst this
    rfl
  | n + 1, a :: b :: r, h, hg => by
    rw [decH, List.flatMap_cons, hexL_dec a b (hg a (by simp)) (hg b (by simp)), hex_decH n r (by simp only [List.length_cons] at h; omega) (fun c hc => hg c (by simp [hc]))]
    rfl
  | n + 1, [x], h, _ => by simp at h; omega
  | n + 1, [], h, _ => by simp at h
theorem text_fromB {cs : List UInt8} (h : GoodT cs) : textB (fromB cs) = cs := by
  unfold textB fromB
  rw [List.reverse_reverse]
  exact hex_decH 32 cs h.1 h.2
theorem fromB_length {cs : List UInt8} (h : cs.length = 64) : (fromB cs).length = 32 := by
  unfold fromB
  rw [List.length_reverse, decH_length 32 cs h]
end Go.Proofs.YtfkpdbmgiefnfaaDoor

/-
  curve.minus, curve's below, readKey and Valid, walked. Conditions: words are words; curve.order is laid.
-/
namespace Go.Proofs.YtfkpdbmgiefnfaaDoor.Hk
open Go.RowKit

theorem sub64_call (x y b : Nat) (hb : b ≤ 1) (w : World) :
    (callFunc 87 #[.int .u64 (x : Int), .int .u64 (y : Int), .int .u64 (b : Int)]).run Tryd.prog w =
      .ok (.value (.tuple #[.int .u64 (((x + 18446744073709551616 - y - b) % 18446744073709551616 : Nat) : Int), .int .u64 ((if x < y + b then 1 else 0 : Nat) : Int)])) w := by
  rw [run_callFunc_extern Tryd.func87 (by kernel_rfl) (by kernel_rfl) (by kernel_rfl) (e := sub64Entry) (by kernel_rfl), run_sub64 x y b hb]
  rfl
def W64s (xs : List Int) : Prop := ∀ x ∈ xs, 0 ≤ x ∧ x < 18446744073709551616
theorem numW_append : ∀ (a b : List Int), numW (a ++ b) = numW a + 18446744073709551616 ^ a.length * numW b
  | [], b => by simp [numW]
  | x :: a, b => by
    rw [List.cons_append, numW, numW, numW_append a b, List.length_cons, Nat.pow_succ]
    generalize 18446744073709551616 ^ a.length = P
    generalize numW b = q
    rw [Nat.mul_add, show P * 18446744073709551616 * q = 18446744073709551616 * (P * q) by rw [Nat.mul_comm P, Nat.mul_assoc]]
    omega
theorem numW_lt : ∀ (a : List Int), W64s a → numW a < 18446744073709551616 ^ a.length
  | [], _ => by simp [numW]
  | x :: a, h => by
    have h1 := h x (List.mem_cons_self ..)
    have h2 := numW_lt a (fun y hy => h y (List.mem_cons_of_mem _ hy))
    rw [numW, List.length_cons, Nat.pow_succ]
    generalize 18446744073709551616 ^ a.length = P at *
    omega
/-- What is borrowed behind i words. -/
def brw (xs ys : List Int) (i : Nat) : Nat := if numW (xs.take i) < numW (ys.take i) then 1 else 0
theorem brw_le (xs ys : List Int) (i : Nat) : brw xs ys i ≤ 1 := by unfold brw; split <;> omega
theorem W64s.take {xs : List Int} (h : W64s xs) (n : Nat) : W64s (xs.take n) := fun x hx => h x (List.mem_of_mem_take hx)
theorem brw_next {xs ys : List Int} {i : Nat} {x y : Nat} (hx : xs[i]? = some (x : Int)) (hy : ys[i]? = some (y : Int)) (wx : W64s xs) (wy : W64s ys) :
    brw xs ys (i + 1) = if x < y + brw xs ys i then 1 else 0 := by
  have hxl := (List.getElem?_eq_some_iff.1 hx).1
  have hyl := (List.getElem?_eq_some_iff.1 hy).1
  have ex : numW (xs.take (i + 1)) = numW (xs.take i) + 18446744073709551616 ^ i * x := by
    rw [List.take_add_one, hx, numW_append, List.length_take, Nat.min_eq_left (by omega)]
    simp [numW]
  have ey : numW (ys.take (i + 1)) = numW (ys.take i) + 18446744073709551616 ^ i * y := by
    rw [List.take_add_one, hy, numW_append, List.length_take, Nat.min_eq_left (by omega)]
    simp [numW]
  have lx := numW_lt (xs.take i) (wx.take i)
  have ly := numW_lt (ys.take i) (wy.take i)
  rw [List.length_take, Nat.min_eq_left (by omega)] at lx ly
  unfold brw
  rw [ex, ey]
  generalize numW (xs.take i) = a at *
  generalize numW (ys.take i) = b at *
  generalize 18446744073709551616 ^ i = P at *
  by_cases hab : a < b
  · rw [if_pos hab]
    by_cases h : x < y + 1
    · rw [if_pos h, if_pos]
      have := Nat.mul_le_mul_left P (show x ≤ y by omega)
      omega
    · rw [if_neg h, if_neg]
      have := Nat.mul_le_mul_left P (show y + 1 ≤ x by omega)
      rw [Nat.mul_add, Nat.mul_one] at this
      omega
  · rw [if_neg hab, Nat.add_zero]
    by_cases h : x < y
    · rw [if_pos h, if_pos]
      have := Nat.mul_le_mul_left P (show x + 1 ≤ y by omega)
      rw [Nat.mul_add, Nat.mul_one] at this
      omega
    · rw [if_neg h, if_neg]
      have := Nat.mul_le_mul_left P (show y ≤ x by omega)
      omega
theorem nat_at {xs : List Int} {i : Nat} (h : W64s xs) (hi : i < xs.length) : ∃ x : Nat, xs[i]? = some (x : Int) ∧ x < 18446744073709551616 := by
  obtain ⟨h0, h1⟩ := h _ (List.getElem_mem hi)
  exact ⟨(xs[i]).toNat, by rw [List.getElem?_eq_getElem hi]; congr 1; omega, by omega⟩
/-- Three boxes. -/
theorem three_boxes (w : World) (t : TypeId) (k : IntKind) (xs ys zs : List Int) : ∃ W, W = (((w.alloc (.cells (xs.map (Value.int k)).toArray t)).alloc (.cells (ys.map (Value.int k)).toArray t)).alloc (.cells (zs.map (Value.int k)).toArray t)) ∧
    IRow W w.heap.size t k xs ∧ IRow W (w.heap.size + 1) t k ys ∧ IRow W (w.heap.size + 1 + 1) t k zs ∧ Below w.heap.size w W := by
  refine ⟨_, rfl, irow_alloc (irow_alloc (IRow.new w t k xs) _) _, ?_, ?_, (((Below.refl _ w).alloc (Nat.le_refl _) _).alloc (by simp) _).alloc (by simp; omega) _⟩
  · have h := irow_alloc (IRow.new (w.alloc (.cells (xs.map (Value.int k)).toArray t)) t k ys) (.cells (zs.map (Value.int k)).toArray t)
    rw [World.size_alloc] at h
    exact h
  · have h := IRow.new ((w.alloc (.cells (xs.map (Value.int k)).toArray t)).alloc (.cells (ys.map (Value.int k)).toArray t)) t k zs
    rw [World.size_alloc, World.size_alloc] at h
    exact h

set_option maxRecDepth 100000 in
set_option maxHeartbeats 6400000 in
theorem minus_any (xs ys : List Int) (w : World) (hxl : xs.length = 4) (hyl : ys.length = 4) (wx : W64s xs) (wy : W64s ys) :
    Calls Tryd.prog 67 #[numV xs, numV ys] w fun e w' => ∃ zs : List Int, zs.length = 4 ∧ e = .returned (.tuple #[numV zs, .int .u64 ((if numW xs < numW ys then 1 else 0 : Nat) : Int)]) ∧ Below w.heap.size w w' := by
  have hfin : brw xs ys 4 = if numW xs < numW ys then 1 else 0 := by
    unfold brw
    rw [List.take_of_length_le (by omega), List.take_of_length_le (by omega)]
  rw [← hfin]
  unfold numV
  obtain ⟨W, hW, r1, r2, r3, bel⟩ := three_boxes w 100 .u64 xs ys (List.replicate 4 0)
  obtain ⟨GA, hGA⟩ : ∃ g, g = w.heap.size := ⟨_, rfl⟩
  rw [← hGA] at r1 r2 r3 bel
  have HXL := Lib.hid hxl
  have HYL := Lib.hid hyl
  have WX := Lib.hid wx
  have WY := Lib.hid wy
  have HW := Lib.hid hW
  have R1 := Lib.hid r1
  have R2 := Lib.hid r2
  have R3 := Lib.hid r3
  have BEL := Lib.hid bel
  have HGA := Lib.hid hGA
  obtain ⟨VX, hVX⟩ : ∃ V, V = (xs.map (Value.int .u64)).toArray := ⟨_, rfl⟩
  obtain ⟨VY, hVY⟩ : ∃ V, V = (ys.map (Value.int .u64)).toArray := ⟨_, rfl⟩
  rw [← hVX, ← hVY] at HW ⊢
  clear hxl hyl wx wy hW r1 r2 r3 bel hGA hfin hVX hVY
  go_enter Tryd.func67, Tryd.ntmps67
  go_upto_region 1 with fail
  change Code.wp _ _ _ _ (((w.alloc (.cells VX 100)).alloc (.cells VY 100)).alloc (.cells ((List.replicate 4 (0 : Int)).map (Value.int .u64)).toArray 100))
  rw [← HW.out, show w.heap.size = GA from HGA.out.symm]
  clear HW
  try dsimp only [Act.put]
  go_wp2_with fail
  go_loopw [5, 7] (fun v5 v7 wr => ∃ (i : Nat) (zs : List Int), i ≤ 4 ∧ v7 = .int .i64 (i : Int) ∧ v5 = .int .u64 (brw xs ys i : Nat) ∧ zs.length = 4 ∧ IRow wr (GA + 1 + 1) 100 .u64 zs ∧ IRow wr GA 100 .u64 xs ∧ IRow wr (GA + 1) 100 .u64 ys ∧ Below GA w wr) (fun _ v7 _ => 4 - (intOf v7).toNat)
  case atStart => exact ⟨0, _, by omega, rfl, rfl, rfl, R3.out, R1.out, R2.out, BEL.out⟩
  case round =>
    obtain ⟨i, zs, hi, rfl, rfl, hzl, hz, hx, hy, hbel⟩ := hrel
    by_cases h4 : i < 4
    · obtain ⟨x, hxi, hxs⟩ := nat_at WX.out (by rw [HXL.out]; exact h4)
      obtain ⟨y, hyi, hys⟩ := nat_at WY.out (by rw [HYL.out]; exact h4)
      have hb := brw_next hxi hyi WX.out WY.out
      have hc1 := brw_le xs ys i
      obtain ⟨c, hc⟩ : ∃ c, c = brw xs ys i := ⟨_, rfl⟩
      rw [← hc] at hb hc1 ⊢
      obtain ⟨d, hd⟩ : ∃ d, d = (x + 18446744073709551616 - y - c) % 18446744073709551616 := ⟨_, rfl⟩
      obtain ⟨c2, hc2⟩ : ∃ c2 : Nat, c2 = if x < y + c then 1 else 0 := ⟨_, rfl⟩
      rw [← hc2] at hb
      have K0 := sub64_call x y c hc1
      rw [← hd, ← hc2] at K0
      have SB := Lib.hid K0
      have hx0 : IRow wr.drew GA 100 .u64 xs := hx
      have hy0 : IRow wr.drew (GA + 1) 100 .u64 ys := hy
      have hz0 : IRow wr.drew (GA + 1 + 1) 100 .u64 zs := hz
      have hb0 : Below GA w wr.drew := hbel.drew
      obtain ⟨z0, hz1⟩ : ∃ z0, zs[i]? = some z0 := ⟨_, List.getElem?_eq_getElem (by rw [hzl]; exact h4)⟩
      have hg2 := hz0.cell hz1
      have hf2 := hz0.free i
      have cx := hx0.cell hxi
      have cy := hy0.cell hyi
      have bi : (i : Int) < 4 := by omega
      have nx : IRow (wr.drew.setCell ⟨GA + 1 + 1, i, none⟩ (.int .u64 (d : Int))) GA 100 .u64 xs := (Below.heap_setCell wr.drew _ _ _ (by intro h; first | (have h' : GA = GA + 1 + 1 := h; omega) | (have h' : GA + 1 + 1 = GA := h; omega))).trans hx0
      have ny : IRow (wr.drew.setCell ⟨GA + 1 + 1, i, none⟩ (.int .u64 (d : Int))) (GA + 1) 100 .u64 ys := (Below.heap_setCell wr.drew _ _ _ (by intro h; first | (have h' : GA + 1 = GA + 1 + 1 := h; omega) | (have h' : GA + 1 + 1 = GA + 1 := h; omega))).trans hy0
      have KX := nx.cell hxi
      have KY := ny.cell hyi
      have END := Lib.hid (show ∃ (i' : Nat) (zs' : List Int), i' ≤ 4 ∧ ((i + 1 : Nat) : Int) = (i' : Int) ∧ (c2 : Int) = ((brw xs ys i' : Nat) : Int) ∧ zs'.length = 4 ∧ IRow (wr.drew.setCell ⟨GA + 1 + 1, i, none⟩ (.int .u64 (d : Int))) (GA + 1 + 1) 100 .u64 zs' ∧ IRow (wr.drew.setCell ⟨GA + 1 + 1, i, none⟩ (.int .u64 (d : Int))) GA 100 .u64 xs ∧ IRow (wr.drew.setCell ⟨GA + 1 + 1, i, none⟩ (.int .u64 (d : Int))) (GA + 1) 100 .u64 ys ∧ Below GA w (wr.drew.setCell ⟨GA + 1 + 1, i, none⟩ (.int .u64 (d : Int))) from
        ⟨i + 1, zs.set i (d : Int), by omega, rfl, by rw [hb], by rw [List.length_set]; exact hzl, hz0.set i _, nx, ny, hb0.setCell (p := ⟨GA + 1 + 1, i, none⟩) (by show GA ≤ GA + 1 + 1; omega) _⟩)
      clear hxi hyi hb hc hd hc2 hx hy hz hbel hx0 hy0 hz0 hb0 hz1 nx ny K0 hzl hc1
      go_wp2_with fail
      refine wp_region_held_drew (S := (fun w' => w'.cell? ⟨GA, i, none⟩ = some (.int .u64 (x : Int)) ∧ w'.cell? ⟨GA + 1, i, none⟩ = some (.int .u64 (y : Int)))) (by kernel_rfl) ?_ (fun hHeld => ?_)
      · exact ⟨cx, cy⟩
      refine wpAnyH_take (i := 0) (oi := { dst := some 11, op := Go.Op.move (Go.Operand.tmp 6), type := 3, pos := "number.go:44", after := #[], guard := none }) (v := ?av0) rfl (by kernel_rfl) (by kernel_rfl) (by kernel_rfl) (fun _ _ _ h => h) (Or.inl ⟨by rfl, ?ay0⟩) (by assumption) ?ar0
      case ay0 => (intro w hSw; (try dsimp only at hSw); go_simp; try (with_reducible rfl))
      case ar0 =>
      try simp only [Act.put, List.setIfInBounds_toArray, List.set_cons_zero, List.set_cons_succ]
      refine wpAnyH_take (i := 1) (oi := { dst := some 12, op := Go.Op.move (Go.Operand.tmp 6), type := 3, pos := "number.go:44", after := #[], guard := none }) (v := ?av1) rfl (by kernel_rfl) (by kernel_rfl) (by kernel_rfl) (fun _ _ _ h => h) (Or.inl ⟨by rfl, ?ay1⟩) (by assumption) ?ar1
      case ay1 => (intro w hSw; (try dsimp only at hSw); go_simp; try (with_reducible rfl))
      case ar1 =>
      try simp only [Act.put, List.setIfInBounds_toArray, List.set_cons_zero, List.set_cons_succ]
      refine wpAnyH_take (i := 2) (oi := { dst := some 13, op := Go.Op.indexAddr 100 (Go.Operand.tmp 2) (Go.Operand.tmp 12), type := 0, pos := "number.go:44", after := #[{ on := 1, ground := Go.Ground.data }], guard := none }) (v := ?av2) rfl (by kernel_rfl) (by kernel_rfl) (by kernel_rfl) (fun _ _ _ h => h) (Or.inl ⟨by rfl, ?ay2⟩) (by assumption) ?ar2
      case ay2 => (intro w hSw; (try dsimp only at hSw); go_simp; try (with_reducible rfl))
      case ar2 =>
      try simp only [Act.put, List.setIfInBounds_toArray, List.set_cons_zero, List.set_cons_succ]
      refine wpAnyH_take (i := 3) (oi := { dst := some 14, op := Go.Op.load 57 (Go.Operand.tmp 13), type := 57, pos := "number.go:44", after := #[{ on := 2, ground := Go.Ground.data }], guard := none }) (v := ?av3) rfl (by kernel_rfl) (by kernel_rfl) (by kernel_rfl) (fun _ _ _ h => h) (Or.inl ⟨by rfl, ?ay3⟩) (by assumption) ?ar3
      case ay3 => (intro w hSw; (try dsimp only at hSw); go_simp; try (with_reducible rfl))
      case ar3 =>
      try simp only [Act.put, List.setIfInBounds_toArray, List.set_cons_zero, List.set_cons_succ]
      refine wpAnyH_take (i := 4) (oi := { dst := some 15, op := Go.Op.move (Go.Operand.tmp 6), type := 3, pos := "number.go:44", after := #[], guard := none }) (v := ?av4) rfl (by kernel_rfl) (by kernel_rfl) (by kernel_rfl) (fun _ _ _ h => h) (Or.inl ⟨by rfl, ?ay4⟩) (by assumption) ?ar4
      case ay4 => (intro w hSw; (try dsimp only at hSw); go_simp; try (with_reducible rfl))
      case ar4 =>
      try simp only [Act.put, List.setIfInBounds_toArray, List.set_cons_zero, List.set_cons_succ]
      refine wpAnyH_take (i := 5) (oi := { dst := some 16, op := Go.Op.indexAddr 100 (Go.Operand.tmp 3) (Go.Operand.tmp 15), type := 0, pos := "number.go:44", after := #[{ on := 4, ground := Go.Ground.data }], guard := none }) (v := ?av5) rfl (by kernel_rfl) (by kernel_rfl) (by kernel_rfl) (fun _ _ _ h => h) (Or.inl ⟨by rfl, ?ay5⟩) (by assumption) ?ar5
      case ay5 => (intro w hSw; (try dsimp only at hSw); go_simp; try (with_reducible rfl))
      case ar5 =>
      try simp only [Act.put, List.setIfInBounds_toArray, List.set_cons_zero, List.set_cons_succ]
      refine wpAnyH_take (i := 6) (oi := { dst := some 17, op := Go.Op.load 57 (Go.Operand.tmp 16), type := 57, pos := "number.go:44", after := #[{ on := 5, ground := Go.Ground.data }], guard := none }) (v := ?av6) rfl (by kernel_rfl) (by kernel_rfl) (by kernel_rfl) (fun _ _ _ h => h) (Or.inl ⟨by rfl, ?ay6⟩) (by assumption) ?ar6
      case ay6 => (intro w hSw; (try dsimp only at hSw); go_simp; try (with_reducible rfl))
      case ar6 =>
      try simp only [Act.put, List.setIfInBounds_toArray, List.set_cons_zero, List.set_cons_succ]
      refine wpAnyH_take (i := 7) (oi := { dst := some 18, op := Go.Op.move (Go.Operand.tmp 5), type := 57, pos := "number.go:44", after := #[], guard := none }) (v := ?av7) rfl (by kernel_rfl) (by kernel_rfl) (by kernel_rfl) (fun _ _ _ h => h) (Or.inl ⟨by rfl, ?ay7⟩) (by assumption) ?ar7
      case ay7 => (intro w hSw; (try dsimp only at hSw); go_simp; try (with_reducible rfl))
      case ar7 =>
      try simp only [Act.put, List.setIfInBounds_toArray, List.set_cons_zero, List.set_cons_succ]
      refine wpAnyH_ready (rs := [8]) (by kernel_rfl) (by simp) ?_
      refine AllReadyH.cons (o := { dst := some 19, op := Go.Op.call { callee := Go.Callee.value (Go.Operand.func 87), args := #[Go.Operand.tmp 14, Go.Operand.tmp 17, Go.Operand.tmp 18], argTypes := #[57, 57, 57] }, type := 137, pos := "number.go:44", after := #[{ on := 3, ground := Go.Ground.data }, { on := 6, ground := Go.Ground.data }, { on := 7, ground := Go.Ground.data }], guard := none }) rfl (fun K hK => ?_) (AllReadyH.nil)
      go_simp
      rw [SB.out]
      rw [Oper.upon_value]
      refine hK.out _ _ ?_ (fun hHeld => ?_)
      · exact hHeld
      clear hK K
      try simp only [Act.put, List.setIfInBounds_toArray, List.set_cons_zero, List.set_cons_succ]
      refine wpAnyH_take (i := 9) (oi := { dst := some 10, op := Go.Op.move (Go.Operand.tmp 19), type := 137, pos := "number.go:44", after := #[{ on := 8, ground := Go.Ground.data }], guard := none }) (v := ?a_8v9) rfl (by kernel_rfl) (by kernel_rfl) (by kernel_rfl) (fun _ _ _ h => h) (Or.inl ⟨by rfl, ?a_8y9⟩) (by assumption) ?a_8r9
      case a_8y9 => (intro w hSw; (try dsimp only at hSw); go_simp; try (with_reducible rfl))
      case a_8r9 =>
      try simp only [Act.put, List.setIfInBounds_toArray, List.set_cons_zero, List.set_cons_succ]
      refine wpAnyH_take (i := 10) (oi := { dst := some 20, op := Go.Op.extract (Go.Operand.tmp 10) 0, type := 57, pos := "number.go:44", after := #[{ on := 9, ground := Go.Ground.data }], guard := none }) (v := ?a_8v10) rfl (by kernel_rfl) (by kernel_rfl) (by kernel_rfl) (fun _ _ _ h => h) (Or.inl ⟨by rfl, ?a_8y10⟩) (by assumption) ?a_8r10
      case a_8y10 => (intro w hSw; (try dsimp only at hSw); go_simp; try (with_reducible rfl))
      case a_8r10 =>
      try simp only [Act.put, List.setIfInBounds_toArray, List.set_cons_zero, List.set_cons_succ]
      refine wpAnyH_take (i := 11) (oi := { dst := some 21, op := Go.Op.extract (Go.Operand.tmp 10) 1, type := 57, pos := "number.go:44", after := #[{ on := 9, ground := Go.Ground.data }, { on := 13, ground := Go.Ground.gcOnly Go.Departure.lateStores }], guard := none }) (v := ?a_8v11) rfl (by kernel_rfl) (by kernel_rfl) (by kernel_rfl) (fun _ _ _ h => h) (Or.inl ⟨by rfl, ?a_8y11⟩) (by assumption) ?a_8r11
      case a_8y11 => (intro w hSw; (try dsimp only at hSw); go_simp; try (with_reducible rfl))
      case a_8r11 =>
      try simp only [Act.put, List.setIfInBounds_toArray, List.set_cons_zero, List.set_cons_succ]
      refine wpAnyH_take (i := 12) (oi := { dst := some 22, op := Go.Op.indexAddr 100 (Go.Operand.tmp 4) (Go.Operand.tmp 11), type := 0, pos := "number.go:44", after := #[{ on := 0, ground := Go.Ground.data }, { on := 0, ground := Go.Ground.phase }, { on := 1, ground := Go.Ground.phase }, { on := 2, ground := Go.Ground.phase }, { on := 3, ground := Go.Ground.phase }, { on := 4, ground := Go.Ground.phase }, { on := 5, ground := Go.Ground.phase }, { on := 6, ground := Go.Ground.phase }, { on := 7, ground := Go.Ground.phase }, { on := 8, ground := Go.Ground.phase }, { on := 9, ground := Go.Ground.phase }, { on := 10, ground := Go.Ground.phase }, { on := 11, ground := Go.Ground.textOnly Go.Departure.lateStores }], guard := none }) (v := ?a_8v12) rfl (by kernel_rfl) (by kernel_rfl) (by kernel_rfl) (fun _ _ _ h => h) (Or.inl ⟨by rfl, ?a_8y12⟩) (by assumption) ?a_8r12
      case a_8y12 => (intro w hSw; (try dsimp only at hSw); go_simp; try (with_reducible rfl))
      case a_8r12 =>
      try simp only [Act.put, List.setIfInBounds_toArray, List.set_cons_zero, List.set_cons_succ]
      refine wpAnyH_ready (rs := [13]) (by kernel_rfl) (by simp) ?_
      refine AllReadyH.cons (o := { dst := none, op := Go.Op.store 57 (Go.Operand.tmp 22) (Go.Operand.tmp 20), type := 0, pos := "number.go:44", after := #[{ on := 12, ground := Go.Ground.data }, { on := 10, ground := Go.Ground.data }, { on := 8, ground := Go.Ground.chain }, { on := 0, ground := Go.Ground.phase }, { on := 1, ground := Go.Ground.phase }, { on := 2, ground := Go.Ground.phase }, { on := 3, ground := Go.Ground.phase }, { on := 4, ground := Go.Ground.phase }, { on := 5, ground := Go.Ground.phase }, { on := 6, ground := Go.Ground.phase }, { on := 7, ground := Go.Ground.phase }, { on := 8, ground := Go.Ground.phase }, { on := 9, ground := Go.Ground.phase }, { on := 10, ground := Go.Ground.phase }, { on := 11, ground := Go.Ground.textOnly Go.Departure.lateStores }], guard := none }) rfl (fun K hK => ?_) (AllReadyH.nil)
      go_simp
      refine hK.out _ _ ?_ (fun hHeld => ?_)
      · exact ⟨KX, KY⟩
      clear hK K
      try simp only [Act.put]
      refine wpAnyH_take (i := 14) (oi := { dst := some 5, op := Go.Op.assign (Go.Operand.tmp 21), type := 57, pos := "number.go:44", after := #[{ on := 11, ground := Go.Ground.data }, { on := 13, ground := Go.Ground.chain }, { on := 0, ground := Go.Ground.phase }, { on := 1, ground := Go.Ground.phase }, { on := 2, ground := Go.Ground.phase }, { on := 3, ground := Go.Ground.phase }, { on := 4, ground := Go.Ground.phase }, { on := 5, ground := Go.Ground.phase }, { on := 6, ground := Go.Ground.phase }, { on := 7, ground := Go.Ground.phase }, { on := 8, ground := Go.Ground.phase }, { on := 9, ground := Go.Ground.phase }, { on := 10, ground := Go.Ground.phase }, { on := 11, ground := Go.Ground.phase }, { on := 12, ground := Go.Ground.phase }, { on := 13, ground := Go.Ground.phase }], guard := none }) (v := ?a_8_13v14) rfl (by kernel_rfl) (by kernel_rfl) (by kernel_rfl) (fun _ _ _ h => h) (Or.inl ⟨by rfl, ?a_8_13y14⟩) (by assumption) ?a_8_13r14
      case a_8_13y14 => (intro w hSw; (try dsimp only at hSw); go_simp; try (with_reducible rfl))
      case a_8_13r14 =>
      try simp only [Act.put, List.setIfInBounds_toArray, List.set_cons_zero, List.set_cons_succ]
      refine wpAnyH_done (by kernel_rfl) ?_ _
      go_wp2_with fail
      obtain ⟨i', zs', e1, e2, e3, e4, e5, e6, e7, e8⟩ := END.out
      exact ⟨⟨i', zs', e1, by rw [← e2]; go_num, by rw [← e3], e4, e5, e6, e7, e8⟩, by simp [intOf]; omega⟩
    · obtain rfl : i = 4 := by omega
      have e4 : ((4 : Nat) : Int) = 4 := rfl
      rw [e4]
      have hzr := setRow_irow (ys := zs) hz
      have hbr := below_setRow hbel (by omega : GA ≤ GA + 1 + 1) (zs.map (Value.int .u64)).toArray
      have HFIN := Lib.hid hzr
      have HB := Lib.hid hbr
      have HZ := Lib.hid hz
      have HZL := Lib.hid hzl
      obtain ⟨c, hc⟩ : ∃ c, c = brw xs ys 4 := ⟨_, rfl⟩
      rw [← hc]
      have HC := Lib.hid hc
      clear e4 hx hy hz hbel hzr hbr h4 hzl hc
      go_wp2_with (first
        | (refine wpList_load_irow rfl 100 (.tmp 4) rfl (g := GA + 1 + 1) (t := 100) (k := .u64) (xs := zs) rfl HZ.out Tryd.underlying100 (by rw [HZL.out]; exact info_num) ?_)
        | (refine wpList_store_irow rfl 100 (.tmp 4) (.tmp 24) rfl (g := GA + 1 + 1) (t := 100) (k := .u64) (xs := zs) (ys := zs) rfl rfl HZ.out (by rw [HZL.out]; exact info_num) rfl ?_))
      refine bodyPost_ret (v := .tuple #[.agg (zs.map (Value.int .u64)).toArray, .int .u64 (c : Int)]) ?_ rfl ⟨zs, HZL.out, by rw [HC.out], by rw [← HGA.out]; exact HB.out⟩
      obtain ⟨fr, hrw⟩ : ∃ fr, ((wr.setRow (GA + 1 + 1) (zs.map (Value.int .u64)).toArray)).heap[GA + 1 + 1]? = some (.cells (zs.map (Value.int .u64)).toArray 100 fr) := ⟨_, HFIN.out⟩
      exact results_row_tmp Tryd.results67 _ _ (GA + 1 + 1) 100 (zs.map (Value.int .u64)).toArray fr _ _ rfl rfl hrw Tryd.underlying100 rfl (by rw [List.size_toArray, List.length_map, HZL.out]; exact info_num)

/-- Two boxes. -/
theorem two_boxes (w : World) (t : TypeId) (k : IntKind) (xs ys : List Int) : ∃ W, W = ((w.alloc (.cells (xs.map (Value.int k)).toArray t)).alloc (.cells (ys.map (Value.int k)).toArray t)) ∧
    IRow W w.heap.size t k xs ∧ IRow W (w.heap.size + 1) t k ys ∧ Below w.heap.size w W ∧ W.heap.size = w.heap.size + 1 + 1 := by
  refine ⟨_, rfl, irow_alloc (IRow.new w t k xs) _, ?_, ((Below.refl _ w).alloc (Nat.le_refl _) _).alloc (by simp) _, by simp⟩
  have h := IRow.new (w.alloc (.cells (xs.map (Value.int k)).toArray t)) t k ys
  rw [World.size_alloc] at h
  exact h

set_option maxRecDepth 100000 in
set_option maxHeartbeats 6400000 in
theorem below_any (xs ys : List Int) (w : World) (hxl : xs.length = 4) (hyl : ys.length = 4) (wx : W64s xs) (wy : W64s ys) :
    Calls Tryd.prog 47 #[numV xs, numV ys] w fun e w' => e = .returned (.bool (decide (numW xs < numW ys))) ∧ Below w.heap.size w w' := by
  obtain ⟨W, hW, r1, r2, bel, hsz⟩ := two_boxes w 100 .u64 xs ys
  obtain ⟨GA, hGA⟩ : ∃ g, g = w.heap.size := ⟨_, rfl⟩
  rw [← hGA] at r1 r2 bel hsz
  have MN := Lib.hid (minus_any xs ys W hxl hyl wx wy)
  have HX := Lib.hid (show (Tryd.prog.info? 100).map (·.size) = some xs.length by rw [hxl]; exact info_num)
  have HY := Lib.hid (show (Tryd.prog.info? 100).map (·.size) = some ys.length by rw [hyl]; exact info_num)
  have HW := Lib.hid hW
  have R1 := Lib.hid r1
  have R2 := Lib.hid r2
  have BEL := Lib.hid bel
  have HSZ := Lib.hid hsz
  have HGA := Lib.hid hGA
  clear hxl hyl wx wy hW r1 r2 bel hsz hGA
  unfold numV
  go_enter Tryd.func47, Tryd.ntmps47
  go_upto_region 1 with fail
  change Code.wp _ _ _ _ ((w.alloc (.cells (xs.map (Value.int .u64)).toArray 100)).alloc (.cells (ys.map (Value.int .u64)).toArray 100))
  rw [← HW.out, show w.heap.size = GA from HGA.out.symm]
  try dsimp only [Act.put]
  go_wp2_with (first
    | (refine wpList_load_irow rfl 100 (.tmp 2) rfl (g := GA) (t := 100) (k := .u64) (xs := xs) rfl R1.out Tryd.underlying100 HX.out ?_)
    | (refine wpList_load_irow rfl 100 (.tmp 3) rfl (g := GA + 1) (t := 100) (k := .u64) (xs := ys) rfl R2.out Tryd.underlying100 HY.out ?_))
  refine MN.out.mono ?_
  rintro e w2 ⟨zs, hzl, rfl, hb2⟩
  have rz := IRow.new w2 100 .u64 (List.replicate 4 0)
  have HRZ := Lib.hid rz
  have HZL := Lib.hid hzl
  have HB2 := Lib.hid (BEL.out.trans (hb2.mono (by have := HSZ.out; omega)))
  have hs2 := hb2.size
  obtain ⟨c, hc⟩ : ∃ c : Nat, c = if numW xs < numW ys then 1 else 0 := ⟨_, rfl⟩
  rw [← hc]
  have HC := Lib.hid (show (decide ((c : Int) = 1)) = decide (numW xs < numW ys) by rw [hc]; by_cases h : numW xs < numW ys <;> simp [h])
  have HB3 := Lib.hid (show Below GA w ((w2.alloc (.cells ((List.replicate 4 (0 : Int)).map (Value.int .u64)).toArray 100)).setRow w2.heap.size (zs.map (Value.int .u64)).toArray) from
    below_setRow (HB2.out.alloc (by have := HSZ.out; omega) _) (by have := HSZ.out; omega) _)
  clear rz hzl hb2 hc hs2
  unfold numV
  go_wp2_with (refine wpList_store_irow rfl 100 (.tmp 5) (.tmp 11) rfl (g := w2.heap.size) (t := 100) (k := .u64) (xs := List.replicate 4 0) (ys := zs) rfl rfl HRZ.out (by rw [HZL.out]; exact info_num) (by rw [HZL.out]; rfl) ?_)
  go_ret
  exact ⟨congrArg (fun b => Ending.returned (Value.bool b)) (by first | exact HC.out | (rw [← HC.out]; rfl) | (rw [← HC.out]; simp; done)), by rw [← HGA.out]; exact HB3.out⟩
end Go.Proofs.YtfkpdbmgiefnfaaDoor.Hk

/-
  curve.readKey and curve.Valid, walked. Conditions: the bytes are 32; curve.order is laid.
-/
namespace Go.Proofs.YtfkpdbmgiefnfaaDoor.Hk
open Go.RowKit

def orderW : List Int := [13822214165235122497, 13451932020343611451, 18446744073709551614, 18446744073709551615]
theorem orderW_u : W64s orderW := by unfold W64s orderW; decide
/-- curve.order is laid. -/
def OrdIs (w : World) : Prop := 1 < w.heap.size ∧ w.rangeAt 1 0 (orderW.map (Value.int .u64))
theorem OrdIs.below {w w' : World} {B : Nat} (h : OrdIs w) (hb : Below B w w') (hB : 1 < B) : OrdIs w' := by
  refine ⟨by have := h.1; have := hb.size; omega, fun j v hv => ?_⟩
  exact (hb.cell (p := ⟨1, 0 + j, none⟩) hB).trans (h.2 j v hv)
/-- Is it a key? -/
def keyW (xs : List Int) : Bool := decide (numW xs ≠ 0) && decide (numW xs < numW orderW)
theorem four {l : List Int} (h : l.length = 4) : ∃ a b c d, l = [a, b, c, d] := by
  match l, h with
  | [a, b, c, d], _ => exact ⟨a, b, c, d, rfl⟩
theorem all_range_ints : ∀ (xs ys : List Int), xs.length = ys.length → ((List.range xs.length).all fun i => xs.getD i 0 == ys.getD i 0) = (xs == ys)
  | [], [], _ => rfl
  | x :: xs, y :: ys, h => by
    have ih := all_range_ints xs ys (by simpa using h)
    rw [List.length_cons, List.range_succ_eq_map, List.all_cons, List.all_map]
    simp only [List.getD_cons_zero, Function.comp_def, List.getD_cons_succ, ih]
    simp [List.cons_beq_cons]
  | [], _ :: _, h => by simp at h
  | _ :: _, [], h => by simp at h
/-- Two arrays of integers. -/
theorem run_equalIn_ints {P : Program} (k : IntKind) (d : Nat) (t e : TypeId) (n : Nat) (ht : P.underlying t = some (.array n e)) (he : P.underlying e = some (.int k)) (hsz : ∀ w, (sizeOf e).run P w = .ok 1 w)
    (xs ys : List Int) (hx : xs.length = n) (hy : ys.length = n) (w : World) :
    (Op.equalIn (d + 2) t (.agg (xs.map (Value.int k)).toArray) (.agg (ys.map (Value.int k)).toArray)).run P w = .ok (xs == ys) w := by
  rw [← all_range_ints xs ys (hx.trans hy.symm), hx, List.range_eq_range', Op.equalIn]
  simp only [Sem.run_bind, run_underlying ht, Result.andThen_ok, hsz, Std.Legacy.Range.forIn_eq_forIn_range', Std.Legacy.Range.size, Nat.sub_zero, Nat.add_sub_cancel, Nat.div_one]
  have hl : ∀ i ∈ List.range' 0 n 1, i < n := fun i hi => by simpa using (List.mem_range'_1.1 hi).2
  generalize List.range' 0 n 1 = l at hl ⊢
  induction l with
  | nil => simp
  | cons i l ih =>
    have hi : i < n := hl i (by simp)
    have px : (part e (xs.map (Value.int k)).toArray (i * 1)).run P w = .ok (.int k (xs.getD i 0)) w := by
      simp [part, isAgg, run_underlying he, List.getD, List.getElem?_eq_getElem (show i < xs.length by omega)]
    have py : (part e (ys.map (Value.int k)).toArray (i * 1)).run P w = .ok (.int k (ys.getD i 0)) w := by
      simp [part, isAgg, run_underlying he, List.getD, List.getElem?_eq_getElem (show i < ys.length by omega)]
    have pe : (Op.equalIn (d + 1) e (.int k (xs.getD i 0)) (.int k (ys.getD i 0))).run P w = .ok (xs.getD i 0 == ys.getD i 0) w := by
      rw [run_equalIn_int w d e k k _ _ he]
    simp only [List.forIn_cons, Sem.run_bind, px, py, pe, Result.andThen_ok, List.all_cons]
    cases hb : (xs.getD i 0 == ys.getD i 0)
    · simp
    · simp only [Bool.not_true, Bool.false_eq_true, if_false, Sem.run_pure, Result.andThen_ok, Bool.true_and]
      exact ih fun j hj => hl j (by simp [hj])
theorem size_u64 (w : World) : (sizeOf 57).run Tryd.prog w = .ok 1 w := by kernel_rfl
set_option maxRecDepth 100000 in
theorem eq_zero (xs : List Int) (hl : xs.length = 4) (hx : W64s xs) (w : World) :
    (Op.equalIn 10000 100 (.agg (xs.map (Value.int .u64)).toArray) (.agg #[.int .u64 0, .int .u64 0, .int .u64 0, .int .u64 0])).run Tryd.prog w = .ok (decide (numW xs = 0)) w := by
  have K := run_equalIn_ints (P := Tryd.prog) .u64 9998 100 57 4 Tryd.underlying100 Tryd.underlying57 size_u64 xs [0, 0, 0, 0] hl rfl w
  refine K.trans ?_
  congr 1
  obtain ⟨a, b, c, d, rfl⟩ := four hl
  have ha := hx a (by simp)
  have hb := hx b (by simp)
  have hc := hx c (by simp)
  have hd := hx d (by simp)
  rw [Bool.eq_iff_iff, decide_eq_true_eq, beq_iff_eq]
  simp only [List.cons.injEq, and_true, numW]
  omega
theorem wp_store_irow {op : Oper} {a : Act} {w : World} {K : Act → World → Prop} {Q : Exit → Act → World → Prop} (ty : TypeId) (x y : Operand) (ho : op.op = .store ty x y)
    {g : Nat} {t : TypeId} {k : IntKind} {xs ys : List Int} (hx : a.eval x = .pointer (some ⟨g, 0, none⟩)) (hy : a.eval y = .agg (ys.map (Value.int k)).toArray) (h : IRow w g t k xs) (hi : (Tryd.prog.info? ty).map (·.size) = some ys.length) (hl : xs.length = ys.length)
    (hn : K (a.put op.dst undef) (w.setRow g (ys.map (Value.int k)).toArray)) : op.wp Tryd.prog a w K Q := by
  unfold Oper.wp execOp
  simp only [ho, hx, hy, storeAt_irow h hi hl, Sem.run_bind, Sem.run_pure, Result.andThen_ok]
  exact hn
theorem irow_setRow {w : World} {g g2 : Nat} {t : TypeId} {k : IntKind} {xs : List Int} (h : IRow w g t k xs) (hne : g2 ≠ g) (cs : Array Value) : IRow (w.setRow g2 cs) g t k xs := by
  unfold IRow at h ⊢
  simp [World.setRow, Array.getElem?_modify, h, hne]
theorem irow_range {w : World} {g : Nat} {t : TypeId} {k : IntKind} {xs : List Int} (h : IRow w g t k xs) : w.rangeAt g 0 (xs.map (Value.int k)) := fun j v hv => by
  rw [List.getElem?_map] at hv
  cases hq : xs[j]? with
  | none => rw [hq] at hv; cases hv
  | some z =>
    rw [hq] at hv
    obtain rfl := Option.some.inj hv
    rw [Nat.zero_add]
    exact h.cell hq
theorem zero_scal (W : World) : (zeroValue 70).run Tryd.prog W = .ok (.agg ((List.replicate 4 (0 : Int)).map (Value.int .u64)).toArray) W := by kernel_rfl
theorem info_scal : (Tryd.prog.info? 70).map (·.size) = some 4 := by kernel_rfl
theorem words4_length (bs : List UInt8) : (words4 bs).length = 4 := rfl

set_option maxRecDepth 100000 in
set_option maxHeartbeats 6400000 in
theorem readKey_any (bs : List UInt8) (w : World) (hl : bs.length = 32) (ho : OrdIs w) :
    Calls Tryd.prog 30 #[digV bs] w fun e w' => e = .returned (.tuple #[numV (words4 bs), .bool (keyW (words4 bs))]) ∧ Below w.heap.size w w' := by
  have hl2 : (nums bs).length = 32 := by rw [nums_length, hl]
  have r1 := irow_alloc (IRow.new w 28 .u8 (nums bs)) (.cells ((List.replicate 4 (0 : Int)).map (Value.int .u64)).toArray 70)
  have r2 := IRow.new (w.alloc (.cells ((nums bs).map (Value.int .u8)).toArray 28)) 70 .u64 (List.replicate 4 0)
  have b1 : Below w.heap.size w ((w.alloc (.cells ((nums bs).map (Value.int .u8)).toArray 28)).alloc (.cells ((List.replicate 4 (0 : Int)).map (Value.int .u64)).toArray 70)) := ((Below.refl _ w).alloc (Nat.le_refl _) _).alloc (by simp) _
  have hsz : ((w.alloc (.cells ((nums bs).map (Value.int .u8)).toArray 28)).alloc (.cells ((List.replicate 4 (0 : Int)).map (Value.int .u64)).toArray 70)).heap.size = w.heap.size + 1 + 1 := by simp
  rw [World.size_alloc] at r2
  obtain ⟨wA, hwA⟩ : ∃ z, z = ((w.alloc (.cells ((nums bs).map (Value.int .u8)).toArray 28)).alloc (.cells ((List.replicate 4 (0 : Int)).map (Value.int .u64)).toArray 70)) := ⟨_, rfl⟩
  rw [← hwA] at r1 r2 b1 hsz
  have hoA := ho.below b1 ho.1
  obtain ⟨GA, hGA⟩ : ∃ g, g = w.heap.size := ⟨_, rfl⟩
  have hog := ho.1
  rw [← hGA] at r1 r2 b1 hsz hog
  have HI := Lib.hid (show (Tryd.prog.info? 28).map (·.size) = some (nums bs).length by rw [hl2]; exact info_b32)
  have hu := words4_u bs
  have hlx := words4_length bs
  have hrd := read_any bs wA hl
  obtain ⟨xs, hxs⟩ : ∃ xs, xs = words4 bs := ⟨_, rfl⟩
  rw [← hxs] at hu hlx hrd ⊢
  have RD := Lib.hid hrd
  clear hxs hrd
  have R1 := Lib.hid r1
  have R2 := Lib.hid r2
  have B1 := Lib.hid b1
  have HSZ := Lib.hid hsz
  have HO := Lib.hid hoA
  have HGA := Lib.hid hGA
  have HWA := Lib.hid hwA
  have HOG := Lib.hid hog
  clear hl hl2 r1 r2 b1 hsz hwA hoA hGA ho hog
  unfold digV
  go_enter Tryd.func30, Tryd.ntmps30
  go_upto_region 1 with fail
  change Code.wp _ _ _ _ ((w.alloc (.cells ((nums bs).map (Value.int .u8)).toArray 28)).alloc (.cells ((List.replicate 4 (0 : Int)).map (Value.int .u64)).toArray 70))
  rw [← HWA.out, show w.heap.size = GA from HGA.out.symm]
  clear HWA
  try dsimp only [Act.put]
  go_wp2_with (refine wpList_load_irow rfl 28 (.tmp 1) rfl (g := GA) (t := 28) (k := .u8) (xs := nums bs) rfl R1.out Tryd.underlying28 HI.out ?_)
  refine RD.out.mono ?_
  rintro e w2 ⟨rfl, hb2⟩
  have hs2 := hb2.size
  have rz := IRow.new w2 100 .u64 (List.replicate 4 0)
  have rx := setRow_irow (ys := xs) rz
  have hs3 := HSZ.out
  have bA : Below (GA + 1 + 1) wA ((w2.alloc (.cells ((List.replicate 4 (0 : Int)).map (Value.int .u64)).toArray 100)).setRow w2.heap.size (xs.map (Value.int .u64)).toArray) :=
    below_setRow ((hb2.mono (by omega)).alloc (by omega) _) (by omega) _
  have HRZ := Lib.hid rz
  have HLX := Lib.hid hlx
  clear rz
  unfold numV
  go_upto_region 2 with (refine wpList_store_irow rfl 100 (.tmp 4) (.tmp 6) rfl (g := w2.heap.size) (t := 100) (k := .u64) (xs := List.replicate 4 0) (ys := xs) rfl rfl HRZ.out (by rw [HLX.out]; exact info_num) (by rw [HLX.out]; rfl) ?_)
  change Code.wp _ _ _ _ ((w2.alloc (.cells ((List.replicate 4 (0 : Int)).map (Value.int .u64)).toArray 100)).setRow w2.heap.size (xs.map (Value.int .u64)).toArray)
  obtain ⟨w3, hw3⟩ : ∃ z, z = ((w2.alloc (.cells ((List.replicate 4 (0 : Int)).map (Value.int .u64)).toArray 100)).setRow w2.heap.size (xs.map (Value.int .u64)).toArray) := ⟨_, rfl⟩
  rw [← hw3] at rx bA ⊢
  obtain ⟨G4, hG4⟩ : ∃ g, g = w2.heap.size := ⟨_, rfl⟩
  rw [← hG4] at rx ⊢
  have o3 : OrdIs w3 := HO.out.below bA (by have := HOG.out; omega)
  have r23 := R2.out.below bA (by omega)
  have b3 := B1.out.trans (bA.mono (by omega))
  have hlt : G4 < w3.heap.size := rx.lt
  have hgg : GA + 1 + 1 ≤ G4 := by omega
  have rz4 := r23.drew
  have S0 : IRow w3.drew (GA + 1) 70 .u64 (List.replicate 4 0) ∧ IRow w3.drew G4 100 .u64 xs ∧ w3.drew.rangeAt 1 0 (orderW.map (Value.int .u64)) := ⟨r23, rx, o3.2⟩
  have HS0 := Lib.hid S0
  have HIX := Lib.hid (show (Tryd.prog.info? 100).map (·.size) = some (xs.map (Value.int .u64)).length by rw [List.length_map, hlx]; exact info_num)
  have HIO := Lib.hid (show (Tryd.prog.info? 100).map (·.size) = some (orderW.map (Value.int .u64)).length by rw [List.length_map]; exact info_num)
  have HIS := Lib.hid (show (Tryd.prog.info? 70).map (·.size) = some xs.length by rw [hlx]; exact info_scal)
  have B3 := Lib.hid b3
  have O3 := Lib.hid o3.2
  have BL0 := below_any xs orderW w3.drew hlx rfl hu orderW_u
  unfold numV at BL0
  have BL := Lib.hid BL0
  have EQ0 := fun W => eq_zero xs hlx hu W
  have OLT := Lib.hid o3.1
  clear rz4 S0 b3 o3 BL0 hu r23 rx bA hb2 hs2 hw3 hG4 hs3
  try dsimp only [Act.put]
  have hog2 : 1 < GA + 1 := by have := HOG.out; omega
  by_cases hz : numW xs = 0
  · have hk : keyW xs = false := by unfold keyW; rw [hz]; rfl
    have HK := Lib.hid hk
    have EQ1 : ∀ W, (Op.equalIn 10000 100 (.agg (xs.map (Value.int .u64)).toArray) (.agg #[.int .u64 0, .int .u64 0, .int .u64 0, .int .u64 0])).run Tryd.prog W = .ok true W := fun W => by rw [EQ0 W, hz]; rfl
    have HF := Lib.hid (setRow_irow (ys := xs) HS0.out.1)
    have BR := below_setRow (Below.refl (GA + 1) w3.drew) (Nat.le_refl _) (xs.map (Value.int .u64)).toArray
    have HS1 := Lib.hid (show IRow (w3.drew.setRow (GA + 1) (xs.map (Value.int .u64)).toArray) G4 100 .u64 xs ∧ (w3.drew.setRow (GA + 1) (xs.map (Value.int .u64)).toArray).rangeAt 1 0 (orderW.map (Value.int .u64)) from
      ⟨irow_setRow HS0.out.2.1 (by omega) _, (OrdIs.below (w := w3.drew) ⟨OLT.out, HS0.out.2.2⟩ BR hog2).2⟩)
    have BF := Lib.hid (below_setRow B3.out.drew (by omega : GA ≤ GA + 1) (xs.map (Value.int .u64)).toArray)
    clear hk hz EQ0 BL BR
    go_wp2_with fail
    refine wp_region_held_drew (S := (fun w' => IRow w' G4 100 .u64 xs ∧ w'.rangeAt 1 0 (orderW.map (Value.int .u64)))) (by kernel_rfl) ?_ (fun hHeld => ?_)
    · exact HS0.out.2
    refine wpAnyH_take (i := 0) (oi := { dst := some 7, op := Go.Op.load 100 (Go.Operand.tmp 4), type := 100, pos := "scalar.go:15", after := #[], guard := none }) (v := (.agg (xs.map (Value.int .u64)).toArray)) rfl (by kernel_rfl) (by kernel_rfl) (by kernel_rfl) (fun _ _ _ h => h) (yieldsIf_load_mid (by rfl) 100 (.tmp 4) rfl G4 0 rfl (xs.map (Value.int .u64)) _ (fun w' h => irow_range h.1) Tryd.underlying100 rfl HIX.out) (by assumption) ?_
    try simp only [Act.put, List.setIfInBounds_toArray, List.set_cons_zero, List.set_cons_succ]
    refine wpAnyH_take (i := 1) (oi := { dst := some 8, op := Go.Op.load 100 (Go.Operand.tmp 4), type := 100, pos := "scalar.go:15", after := #[], guard := none }) (v := (.agg (xs.map (Value.int .u64)).toArray)) rfl (by kernel_rfl) (by kernel_rfl) (by kernel_rfl) (fun _ _ _ h => h) (yieldsIf_load_mid (by rfl) 100 (.tmp 4) rfl G4 0 rfl (xs.map (Value.int .u64)) _ (fun w' h => irow_range h.1) Tryd.underlying100 rfl HIX.out) (by assumption) ?_
    try simp only [Act.put, List.setIfInBounds_toArray, List.set_cons_zero, List.set_cons_succ]
    refine wpAnyH_take (i := 2) (oi := { dst := some 9, op := Go.Op.build 100 #[], type := 100, pos := "scalar.go:15", after := #[], guard := none }) (v := ?av2) rfl (by kernel_rfl) (by kernel_rfl) (by kernel_rfl) (fun _ _ _ h => h) (Or.inl ⟨by rfl, ?ay2⟩) (by assumption) ?ar2
    case ay2 => (intro w hSw; (try dsimp only at hSw); go_simp; try (with_reducible rfl))
    case ar2 =>
    try simp only [Act.put, List.setIfInBounds_toArray, List.set_cons_zero, List.set_cons_succ]
    refine wpAnyH_take (i := 3) (oi := { dst := some 10, op := Go.Op.binOp Go.BinOp.neq 100 (Go.Operand.tmp 8) (Go.Operand.tmp 9) 100, type := 4, pos := "scalar.go:15", after := #[{ on := 1, ground := Go.Ground.data }, { on := 2, ground := Go.Ground.data }], guard := none }) (v := ?av3) rfl (by kernel_rfl) (by kernel_rfl) (by kernel_rfl) (fun _ _ _ h => h) (Or.inl ⟨by rfl, ?ay3⟩) (by assumption) ?ar3
    case ay3 => (intro w hSw; (try dsimp only at hSw); go_simp; try (with_reducible rfl))
    case ar3 =>
    try simp only [Act.put, List.setIfInBounds_toArray, List.set_cons_zero, List.set_cons_succ]
    refine wpAnyH_take (i := 4) (oi := { dst := some 11, op := Go.Op.move (Go.Operand.tmp 10), type := 4, pos := "scalar.go:15", after := #[{ on := 3, ground := Go.Ground.data }], guard := none }) (v := ?av4) rfl (by kernel_rfl) (by kernel_rfl) (by kernel_rfl) (fun _ _ _ h => h) (Or.inl ⟨by rfl, ?ay4⟩) (by assumption) ?ar4
    case ay4 => (intro w hSw; (try dsimp only at hSw); go_simp; try (with_reducible rfl))
    case ar4 =>
    try simp only [Act.put, List.setIfInBounds_toArray, List.set_cons_zero, List.set_cons_succ]
    refine wpAnyH_take (i := 5) (oi := { dst := some 12, op := Go.Op.load 100 (Go.Operand.tmp 4), type := 100, pos := "scalar.go:15", after := #[{ on := 4, ground := Go.Ground.guard }], guard := some (4, true) }) (v := undef) rfl (by kernel_rfl) (by kernel_rfl) (by kernel_rfl) (fun _ _ _ h => h) (Or.inr ⟨by rfl, rfl⟩) (by assumption) ?_
    try simp only [Act.put, List.setIfInBounds_toArray, List.set_cons_zero, List.set_cons_succ]
    refine wpAnyH_take (i := 6) (oi := { dst := some 13, op := Go.Op.load 100 (Go.Operand.global 1), type := 100, pos := "scalar.go:15", after := #[{ on := 4, ground := Go.Ground.guard }], guard := some (4, true) }) (v := undef) rfl (by kernel_rfl) (by kernel_rfl) (by kernel_rfl) (fun _ _ _ h => h) (Or.inr ⟨by rfl, rfl⟩) (by assumption) ?_
    try simp only [Act.put, List.setIfInBounds_toArray, List.set_cons_zero, List.set_cons_succ]
    refine wpAnyH_take (i := 7) (oi := { dst := some 14, op := Go.Op.call { callee := Go.Callee.value (Go.Operand.func 47), args := #[Go.Operand.tmp 12, Go.Operand.tmp 13], argTypes := #[100, 100] }, type := 4, pos := "scalar.go:15", after := #[{ on := 5, ground := Go.Ground.data }, { on := 6, ground := Go.Ground.data }, { on := 4, ground := Go.Ground.chain }, { on := 4, ground := Go.Ground.guard }], guard := some (4, true) }) (v := undef) rfl (by kernel_rfl) (by kernel_rfl) (by kernel_rfl) (fun _ _ _ h => h) (Or.inr ⟨by rfl, rfl⟩) (by assumption) ?_
    try simp only [Act.put, List.setIfInBounds_toArray, List.set_cons_zero, List.set_cons_succ]
    refine wpAnyH_take (i := 8) (oi := { dst := some 15, op := Go.Op.pick (Go.Operand.tmp 11) (Go.Operand.tmp 14) (Go.Operand.const (Go.Value.bool false)), type := 4, pos := "scalar.go:15", after := #[{ on := 4, ground := Go.Ground.data }, { on := 7, ground := Go.Ground.data }, { on := 9, ground := Go.Ground.gcOnly Go.Departure.lateStores }], guard := none }) (v := ?av8) rfl (by kernel_rfl) (by kernel_rfl) (by kernel_rfl) (fun _ _ _ h => h) (Or.inl ⟨by rfl, ?ay8⟩) (by assumption) ?ar8
    case ay8 => (intro w hSw; (try dsimp only at hSw); go_simp; try (with_reducible rfl))
    case ar8 =>
    try simp only [Act.put, List.setIfInBounds_toArray, List.set_cons_zero, List.set_cons_succ]
    refine wpAnyH_ready (rs := [9]) (by kernel_rfl) (by simp) ?_
    refine AllReadyH.cons (o := { dst := none, op := Go.Op.store 70 (Go.Operand.tmp 2) (Go.Operand.tmp 7), type := 0, pos := "scalar.go:15", after := #[{ on := 0, ground := Go.Ground.data }, { on := 7, ground := Go.Ground.chain }, { on := 0, ground := Go.Ground.phase }, { on := 1, ground := Go.Ground.textOnly Go.Departure.lateStores }, { on := 2, ground := Go.Ground.textOnly Go.Departure.lateStores }, { on := 3, ground := Go.Ground.textOnly Go.Departure.lateStores }, { on := 4, ground := Go.Ground.textOnly Go.Departure.lateStores }, { on := 5, ground := Go.Ground.textOnly Go.Departure.lateStores }, { on := 6, ground := Go.Ground.textOnly Go.Departure.lateStores }, { on := 7, ground := Go.Ground.textOnly Go.Departure.lateStoresUnsure }, { on := 8, ground := Go.Ground.textOnly Go.Departure.lateStores }], guard := none }) rfl (fun K hK => ?_) (AllReadyH.nil)
    simp only [Region.wanted, if_true]
    refine wp_store_irow 70 (.tmp 2) (.tmp 7) rfl (g := GA + 1) (t := 70) (k := .u64) (xs := List.replicate 4 0) (ys := xs) rfl rfl HS0.out.1 HIS.out HLX.out.symm ?_
    refine hK.out _ _ ?_ (fun hHeld => ?_)
    · exact HS1.out
    clear hK K
    try simp only [Act.put]
    refine wpAnyH_take (i := 10) (oi := { dst := some 3, op := Go.Op.assign (Go.Operand.tmp 15), type := 4, pos := "scalar.go:15", after := #[{ on := 8, ground := Go.Ground.data }, { on := 9, ground := Go.Ground.chain }, { on := 0, ground := Go.Ground.phase }, { on := 1, ground := Go.Ground.phase }, { on := 2, ground := Go.Ground.phase }, { on := 3, ground := Go.Ground.phase }, { on := 4, ground := Go.Ground.phase }, { on := 5, ground := Go.Ground.phase }, { on := 6, ground := Go.Ground.phase }, { on := 7, ground := Go.Ground.phase }, { on := 8, ground := Go.Ground.phase }, { on := 9, ground := Go.Ground.phase }], guard := none }) (v := ?a_9v10) rfl (by kernel_rfl) (by kernel_rfl) (by kernel_rfl) (fun _ _ _ h => h) (Or.inl ⟨by rfl, ?a_9y10⟩) (by assumption) ?a_9r10
    case a_9y10 => (intro w hSw; (try dsimp only at hSw); go_simp; try (with_reducible rfl))
    case a_9r10 =>
    try simp only [Act.put, List.setIfInBounds_toArray, List.set_cons_zero, List.set_cons_succ]
    refine wpAnyH_done (by kernel_rfl) ?_ _
    go_wp2_with fail
    refine bodyPost_ret (v := .tuple #[.agg (xs.map (Value.int .u64)).toArray, .bool false]) ?_ rfl ⟨by rw [HK.out]; rfl, by rw [← HGA.out]; exact BF.out⟩
    exact results_row_tmp Tryd.results30 _ _ (GA + 1) 70 (xs.map (Value.int .u64)).toArray _ _ _ rfl rfl HF.out Tryd.underlying70 rfl (by rw [List.size_toArray, List.length_map]; exact HIS.out)
  · have hk : keyW xs = decide (numW xs < numW orderW) := by unfold keyW; simp [hz]
    have HK := Lib.hid hk
    have EQ1 : ∀ W, (Op.equalIn 10000 100 (.agg (xs.map (Value.int .u64)).toArray) (.agg #[.int .u64 0, .int .u64 0, .int .u64 0, .int .u64 0])).run Tryd.prog W = .ok false W := fun W => by rw [EQ0 W]; simp [hz]
    have GOG := Lib.hid hog2
    have GGG := Lib.hid hgg
    obtain ⟨kb, hkb⟩ : ∃ kb, kb = decide (numW xs < numW orderW) := ⟨_, rfl⟩
    rw [← hkb] at BL HK
    clear hk hz EQ0 hkb
    go_wp2_with fail
    refine wp_region_held_drew (S := (fun w' => IRow w' G4 100 .u64 xs ∧ w'.rangeAt 1 0 (orderW.map (Value.int .u64)))) (by kernel_rfl) ?_ (fun hHeld => ?_)
    · exact HS0.out.2
    refine wpAnyH_take (i := 0) (oi := { dst := some 7, op := Go.Op.load 100 (Go.Operand.tmp 4), type := 100, pos := "scalar.go:15", after := #[], guard := none }) (v := (.agg (xs.map (Value.int .u64)).toArray)) rfl (by kernel_rfl) (by kernel_rfl) (by kernel_rfl) (fun _ _ _ h => h) (yieldsIf_load_mid (by rfl) 100 (.tmp 4) rfl G4 0 rfl (xs.map (Value.int .u64)) _ (fun w' h => irow_range h.1) Tryd.underlying100 rfl HIX.out) (by assumption) ?_
    try simp only [Act.put, List.setIfInBounds_toArray, List.set_cons_zero, List.set_cons_succ]
    refine wpAnyH_take (i := 1) (oi := { dst := some 8, op := Go.Op.load 100 (Go.Operand.tmp 4), type := 100, pos := "scalar.go:15", after := #[], guard := none }) (v := (.agg (xs.map (Value.int .u64)).toArray)) rfl (by kernel_rfl) (by kernel_rfl) (by kernel_rfl) (fun _ _ _ h => h) (yieldsIf_load_mid (by rfl) 100 (.tmp 4) rfl G4 0 rfl (xs.map (Value.int .u64)) _ (fun w' h => irow_range h.1) Tryd.underlying100 rfl HIX.out) (by assumption) ?_
    try simp only [Act.put, List.setIfInBounds_toArray, List.set_cons_zero, List.set_cons_succ]
    refine wpAnyH_take (i := 2) (oi := { dst := some 9, op := Go.Op.build 100 #[], type := 100, pos := "scalar.go:15", after := #[], guard := none }) (v := ?bv2) rfl (by kernel_rfl) (by kernel_rfl) (by kernel_rfl) (fun _ _ _ h => h) (Or.inl ⟨by rfl, ?by2⟩) (by assumption) ?br2
    case by2 => (intro w hSw; (try dsimp only at hSw); go_simp; try (with_reducible rfl))
    case br2 =>
    try simp only [Act.put, List.setIfInBounds_toArray, List.set_cons_zero, List.set_cons_succ]
    refine wpAnyH_take (i := 3) (oi := { dst := some 10, op := Go.Op.binOp Go.BinOp.neq 100 (Go.Operand.tmp 8) (Go.Operand.tmp 9) 100, type := 4, pos := "scalar.go:15", after := #[{ on := 1, ground := Go.Ground.data }, { on := 2, ground := Go.Ground.data }], guard := none }) (v := ?bv3) rfl (by kernel_rfl) (by kernel_rfl) (by kernel_rfl) (fun _ _ _ h => h) (Or.inl ⟨by rfl, ?by3⟩) (by assumption) ?br3
    case by3 => (intro w hSw; (try dsimp only at hSw); go_simp; try (with_reducible rfl))
    case br3 =>
    try simp only [Act.put, List.setIfInBounds_toArray, List.set_cons_zero, List.set_cons_succ]
    refine wpAnyH_take (i := 4) (oi := { dst := some 11, op := Go.Op.move (Go.Operand.tmp 10), type := 4, pos := "scalar.go:15", after := #[{ on := 3, ground := Go.Ground.data }], guard := none }) (v := ?bv4) rfl (by kernel_rfl) (by kernel_rfl) (by kernel_rfl) (fun _ _ _ h => h) (Or.inl ⟨by rfl, ?by4⟩) (by assumption) ?br4
    case by4 => (intro w hSw; (try dsimp only at hSw); go_simp; try (with_reducible rfl))
    case br4 =>
    try simp only [Act.put, List.setIfInBounds_toArray, List.set_cons_zero, List.set_cons_succ]
    refine wpAnyH_take (i := 5) (oi := { dst := some 12, op := Go.Op.load 100 (Go.Operand.tmp 4), type := 100, pos := "scalar.go:15", after := #[{ on := 4, ground := Go.Ground.guard }], guard := some (4, true) }) (v := (.agg (xs.map (Value.int .u64)).toArray)) rfl (by kernel_rfl) (by kernel_rfl) (by kernel_rfl) (fun _ _ _ h => h) (yieldsIf_load_mid (by rfl) 100 (.tmp 4) rfl G4 0 rfl (xs.map (Value.int .u64)) _ (fun w' h => irow_range h.1) Tryd.underlying100 rfl HIX.out) (by assumption) ?_
    try simp only [Act.put, List.setIfInBounds_toArray, List.set_cons_zero, List.set_cons_succ]
    refine wpAnyH_take (i := 6) (oi := { dst := some 13, op := Go.Op.load 100 (Go.Operand.global 1), type := 100, pos := "scalar.go:15", after := #[{ on := 4, ground := Go.Ground.guard }], guard := some (4, true) }) (v := (.agg (orderW.map (Value.int .u64)).toArray)) rfl (by kernel_rfl) (by kernel_rfl) (by kernel_rfl) (fun _ _ _ h => h) (yieldsIf_load_mid (by rfl) 100 (.global 1) rfl 1 0 rfl (orderW.map (Value.int .u64)) _ (fun w' h => h.2) Tryd.underlying100 rfl HIO.out) (by assumption) ?_
    try simp only [Act.put, List.setIfInBounds_toArray, List.set_cons_zero, List.set_cons_succ]
    refine wpAnyH_ready (rs := [7]) (by kernel_rfl) (by simp) ?_
    refine AllReadyH.cons (o := { dst := some 14, op := Go.Op.call { callee := Go.Callee.value (Go.Operand.func 47), args := #[Go.Operand.tmp 12, Go.Operand.tmp 13], argTypes := #[100, 100] }, type := 4, pos := "scalar.go:15", after := #[{ on := 5, ground := Go.Ground.data }, { on := 6, ground := Go.Ground.data }, { on := 4, ground := Go.Ground.chain }, { on := 4, ground := Go.Ground.guard }], guard := some (4, true) }) rfl (fun K hK => ?_) (AllReadyH.nil)
    go_simp
    refine BL.out.mono ?_
    rintro e w4 ⟨rfl, hb4⟩
    have hs4 := hb4.size
    have r4 := HS0.out.1.below hb4 (by have := HS0.out.1.lt; omega)
    have x4 := HS0.out.2.1.below hb4 HS0.out.2.1.lt
    have q4 : OrdIs w4 := OrdIs.below (w := w3.drew) ⟨OLT.out, HS0.out.2.2⟩ hb4 OLT.out
    have BR := below_setRow (Below.refl (GA + 1) w4) (Nat.le_refl _) (xs.map (Value.int .u64)).toArray
    have HQ4 := Lib.hid (show IRow w4 G4 100 .u64 xs ∧ w4.rangeAt 1 0 (orderW.map (Value.int .u64)) from ⟨x4, q4.2⟩)
    have HR4 := Lib.hid r4
    have HS5 := Lib.hid (show IRow (w4.setRow (GA + 1) (xs.map (Value.int .u64)).toArray) G4 100 .u64 xs ∧ (w4.setRow (GA + 1) (xs.map (Value.int .u64)).toArray).rangeAt 1 0 (orderW.map (Value.int .u64)) from ⟨irow_setRow x4 (by have := GGG.out; omega) _, (OrdIs.below q4 BR GOG.out).2⟩)
    have HF := Lib.hid (setRow_irow (ys := xs) r4)
    have BF := Lib.hid (below_setRow (B3.out.drew.trans (hb4.mono (by have := B3.out.drew.size; have := HGA.out; omega))) (by omega : GA ≤ GA + 1) (xs.map (Value.int .u64)).toArray)
    clear r4 x4 q4 BR hb4 hs4
    refine hK.out _ _ ?_ (fun hHeld => ?_)
    · exact HQ4.out
    clear hK K
    try simp only [Act.put, List.setIfInBounds_toArray, List.set_cons_zero, List.set_cons_succ]
    refine wpAnyH_take (i := 8) (oi := { dst := some 15, op := Go.Op.pick (Go.Operand.tmp 11) (Go.Operand.tmp 14) (Go.Operand.const (Go.Value.bool false)), type := 4, pos := "scalar.go:15", after := #[{ on := 4, ground := Go.Ground.data }, { on := 7, ground := Go.Ground.data }, { on := 9, ground := Go.Ground.gcOnly Go.Departure.lateStores }], guard := none }) (v := ?b_7v8) rfl (by kernel_rfl) (by kernel_rfl) (by kernel_rfl) (fun _ _ _ h => h) (Or.inl ⟨by rfl, ?b_7y8⟩) (by assumption) ?b_7r8
    case b_7y8 => (intro w hSw; (try dsimp only at hSw); go_simp; try (with_reducible rfl))
    case b_7r8 =>
    try simp only [Act.put, List.setIfInBounds_toArray, List.set_cons_zero, List.set_cons_succ]
    refine wpAnyH_ready (rs := [9]) (by kernel_rfl) (by simp) ?_
    refine AllReadyH.cons (o := { dst := none, op := Go.Op.store 70 (Go.Operand.tmp 2) (Go.Operand.tmp 7), type := 0, pos := "scalar.go:15", after := #[{ on := 0, ground := Go.Ground.data }, { on := 7, ground := Go.Ground.chain }, { on := 0, ground := Go.Ground.phase }, { on := 1, ground := Go.Ground.textOnly Go.Departure.lateStores }, { on := 2, ground := Go.Ground.textOnly Go.Departure.lateStores }, { on := 3, ground := Go.Ground.textOnly Go.Departure.lateStores }, { on := 4, ground := Go.Ground.textOnly Go.Departure.lateStores }, { on := 5, ground := Go.Ground.textOnly Go.Departure.lateStores }, { on := 6, ground := Go.Ground.textOnly Go.Departure.lateStores }, { on := 7, ground := Go.Ground.textOnly Go.Departure.lateStoresUnsure }, { on := 8, ground := Go.Ground.textOnly Go.Departure.lateStores }], guard := none }) rfl (fun K hK => ?_) (AllReadyH.nil)
    simp only [Region.wanted, if_true]
    refine wp_store_irow 70 (.tmp 2) (.tmp 7) rfl (g := GA + 1) (t := 70) (k := .u64) (xs := List.replicate 4 0) (ys := xs) rfl rfl HR4.out HIS.out HLX.out.symm ?_
    refine hK.out _ _ ?_ (fun hHeld => ?_)
    · exact HS5.out
    clear hK K
    try simp only [Act.put]
    refine wpAnyH_take (i := 10) (oi := { dst := some 3, op := Go.Op.assign (Go.Operand.tmp 15), type := 4, pos := "scalar.go:15", after := #[{ on := 8, ground := Go.Ground.data }, { on := 9, ground := Go.Ground.chain }, { on := 0, ground := Go.Ground.phase }, { on := 1, ground := Go.Ground.phase }, { on := 2, ground := Go.Ground.phase }, { on := 3, ground := Go.Ground.phase }, { on := 4, ground := Go.Ground.phase }, { on := 5, ground := Go.Ground.phase }, { on := 6, ground := Go.Ground.phase }, { on := 7, ground := Go.Ground.phase }, { on := 8, ground := Go.Ground.phase }, { on := 9, ground := Go.Ground.phase }], guard := none }) (v := ?b_7_9v10) rfl (by kernel_rfl) (by kernel_rfl) (by kernel_rfl) (fun _ _ _ h => h) (Or.inl ⟨by rfl, ?b_7_9y10⟩) (by assumption) ?b_7_9r10
    case b_7_9y10 => (intro w hSw; (try dsimp only at hSw); go_simp; try (with_reducible rfl))
    case b_7_9r10 =>
    try simp only [Act.put, List.setIfInBounds_toArray, List.set_cons_zero, List.set_cons_succ]
    refine wpAnyH_done (by kernel_rfl) ?_ _
    go_wp2_with fail
    refine bodyPost_ret (v := .tuple #[.agg (xs.map (Value.int .u64)).toArray, .bool kb]) ?_ rfl ⟨by rw [HK.out]; rfl, by rw [← HGA.out]; exact BF.out⟩
    exact results_row_tmp Tryd.results30 _ _ (GA + 1) 70 (xs.map (Value.int .u64)).toArray _ _ _ rfl rfl HF.out Tryd.underlying70 rfl (by rw [List.size_toArray, List.length_map]; exact HIS.out)

set_option maxRecDepth 100000 in
set_option maxHeartbeats 6400000 in
theorem valid_any (bs : List UInt8) (w : World) (hl : bs.length = 32) (ho : OrdIs w) :
    Calls Tryd.prog 18 #[digV bs] w fun e w' => e = .returned (.bool (keyW (words4 bs))) ∧ Below w.heap.size w w' := by
  have hl2 : (nums bs).length = 32 := by rw [nums_length, hl]
  have r1 := IRow.new w 28 .u8 (nums bs)
  have b1 : Below w.heap.size w (w.alloc (.cells ((nums bs).map (Value.int .u8)).toArray 28)) := (Below.refl _ w).alloc (Nat.le_refl _) _
  obtain ⟨wA, hwA⟩ : ∃ z, z = w.alloc (.cells ((nums bs).map (Value.int .u8)).toArray 28) := ⟨_, rfl⟩
  rw [← hwA] at r1 b1
  have rk := readKey_any bs wA hl (ho.below b1 ho.1)
  obtain ⟨xs, hxs⟩ : ∃ xs, xs = words4 bs := ⟨_, rfl⟩
  have hlx : xs.length = 4 := by rw [hxs]; rfl
  rw [← hxs] at rk ⊢
  obtain ⟨kb, hkb⟩ : ∃ kb, kb = keyW xs := ⟨_, rfl⟩
  rw [← hkb] at rk ⊢
  obtain ⟨GA, hGA⟩ : ∃ g, g = w.heap.size := ⟨_, rfl⟩
  rw [← hGA] at r1 b1
  have HI := Lib.hid (show (Tryd.prog.info? 28).map (·.size) = some (nums bs).length by rw [hl2]; exact info_b32)
  have HIS := Lib.hid (show (Tryd.prog.info? 70).map (·.size) = some xs.length by rw [hlx]; exact info_scal)
  have HLX := Lib.hid hlx
  have RK := Lib.hid rk
  have R1 := Lib.hid r1
  have B1 := Lib.hid b1
  have HGA := Lib.hid hGA
  have HWA := Lib.hid hwA
  clear hl hl2 r1 b1 hwA rk hxs hlx hkb hGA ho
  unfold digV
  go_enter Tryd.func18, Tryd.ntmps18
  go_upto_region 1 with fail
  change Code.wp _ _ _ _ (w.alloc (.cells ((nums bs).map (Value.int .u8)).toArray 28))
  rw [← HWA.out, show w.heap.size = GA from HGA.out.symm]
  clear HWA
  try dsimp only [Act.put]
  go_wp2_with (refine wpList_load_irow rfl 28 (.tmp 1) rfl (g := GA) (t := 28) (k := .u8) (xs := nums bs) rfl R1.out Tryd.underlying28 HI.out ?_)
  refine RK.out.mono ?_
  rintro e w2 ⟨rfl, hb2⟩
  have rz := IRow.new w2 70 .u64 (List.replicate 4 0)
  have HRZ := Lib.hid rz
  have hs2 := hb2.size
  have hs1 := B1.out.size
  have h0 := HGA.out
  have BF := Lib.hid (below_setRow (((B1.out.trans (hb2.mono (by omega : GA ≤ wA.heap.size)))).alloc (by omega : GA ≤ w2.heap.size) (.cells ((List.replicate 4 (0 : Int)).map (Value.int .u64)).toArray 70)) (by omega : GA ≤ w2.heap.size) (xs.map (Value.int .u64)).toArray)
  clear rz hb2 hs2 hs1 h0
  unfold numV
  go_wp2_with (refine wpList_store_irow rfl 70 (.tmp 3) (.tmp 8) rfl (g := w2.heap.size) (t := 70) (k := .u64) (xs := List.replicate 4 0) (ys := xs) rfl rfl HRZ.out HIS.out (by rw [HLX.out]; rfl) ?_)
  go_ret
  exact ⟨rfl, by rw [← HGA.out]; exact BF.out⟩
end Go.Proofs.YtfkpdbmgiefnfaaDoor.Hk
