/-
  Texts joined: FromT, FromT2, HAwake. Conditions: those of each.
-/
import Derived.Test.YtpcopimbnbmkmaaDoorL15
import Derived.Lib.Bytealg
import Derived.Lib.IndexBytes
import Derived.Lib.SlBytesConst
/-
  hash.FromText: 64 digits, two for each byte, from the last. Conditions: sizes within the reach.
-/
namespace Go.Proofs.YtpcopimbnbmkmaaDoor
open Go.RowKit

theorem u8_back (c : UInt8) : ((c.toNat : Int)).toNat.toUInt8 = c := by simp
theorem results_row_tmp {P : Program} {fn : Func} {p u : Tmp} {ty : TypeId} (h : fn.results = #[.cell p ty, .tmp u]) (tmps : Array Value) (w : World) (g : Nat) (t : TypeId) (cs : Array Value) (fr : Nat × Nat) (d : TypeDesc) (x : Value)
    (hp : tmps.getD p undef = .pointer (some ⟨g, 0, none⟩)) (hx : tmps.getD u undef = x) (hg : w.heap[g]? = some (.cells cs t fr))
    (hu : P.underlying ty = some d) (hd : (match d with | .struct _ | .array _ _ => true | _ => false) = true) (hi : (P.info? ty).map (·.size) = some cs.size) :
    (results fn tmps).run P w = .ok (.tuple #[.agg cs, x]) w := by
  have hp' : tmps[p]?.getD undef = .pointer (some ⟨g, 0, none⟩) := by simpa using hp
  have hx' : tmps[u]?.getD undef = x := by simpa using hx
  simp [results, h, hp', hx', asAddr, run_loadVar_row w g t ty cs fr d hg hu hd hi]

/-- The value of a digit; below 0: none. -/
def digs : ByteArray := ⟨#[48, 49, 50, 51, 52, 53, 54, 55, 56, 57, 97, 98, 99, 100, 101, 102]⟩
def posH (c : UInt8) : Int := Lib.indexByte digs.data.toList c
def posV (c : UInt8) : Int := if 48 ≤ c.toNat ∧ c.toNat ≤ 57 then (c.toNat : Int) - 48 else if 97 ≤ c.toNat ∧ c.toNat ≤ 102 then (c.toNat : Int) - 87 else -1
theorem posH_all : ∀ n : Fin 256, posH (UInt8.ofNat n.val) = posV (UInt8.ofNat n.val) := by decide +kernel
theorem posH_eq (c : UInt8) : posH c = posV c := by
  have h := posH_all ⟨c.toNat, c.toNat_lt⟩
  simpa using h
theorem posH_lt (c : UInt8) : posH c < 16 ∧ -1 ≤ posH c := by
  rw [posH_eq]; unfold posV
  split
  · omega
  · split <;> omega
/-- Two digits a byte. -/
def decH : List UInt8 → List UInt8
  | a :: b :: r => b8 (posH a * 16 + posH b) :: decH r
  | _ => []
def fromB (cs : List UInt8) : List UInt8 := (decH cs).reverse
def GoodT (cs : List UInt8) : Prop := cs.length = 64 ∧ ∀ c ∈ cs, 0 ≤ posH c
theorem decH_length : ∀ (n : Nat) (cs : List UInt8), cs.length = 2 * n → (decH cs).length = n
  | 0, cs, h => by
    have : cs = [] := List.eq_nil_of_length_eq_zero (by omega)
    subst this
    rfl
  | n + 1, a :: b :: r, h => by
    rw [decH, List.length_cons, decH_length n r (by simp only [List.length_cons] at h; omega)]
  | n + 1, [a], h => by simp at h; omega
  | n + 1, [], h => by simp at h
theorem decH_snoc : ∀ (n : Nat) (cs : List UInt8) (a b : UInt8), cs.length = 2 * n → decH (cs ++ [a, b]) = decH cs ++ [b8 (posH a * 16 + posH b)]
  | 0, cs, a, b, h => by
    have : cs = [] := List.eq_nil_of_length_eq_zero (by omega)
    subst this
    rfl
  | n + 1, x :: y :: r, a, b, h => by
    have ih := decH_snoc n r a b (by simp only [List.length_cons] at h; omega)
    show _ :: decH (r ++ [a, b]) = _ :: decH r ++ _
    rw [ih]
    rfl
  | n + 1, [x], _, _, h => by simp at h; omega
  | n + 1, [], _, _, h => by simp at h
theorem dig_posV (v : Nat) (h : v < 16) : posH (b8 (digN v : Nat)) = v := by
  have h2 : ∀ n : Fin 16, posH (b8 (digN n.val : Nat)) = n.val := by decide +kernel
  exact h2 ⟨v, h⟩
theorem posV_dig (c : UInt8) (h : 0 ≤ posH c) : b8 (digN (posH c).toNat : Nat) = c := by
  have h2 : ∀ n : Fin 256, 0 ≤ posH (UInt8.ofNat n.val) → b8 (digN (posH (UInt8.ofNat n.val)).toNat : Nat) = UInt8.ofNat n.val := by decide +kernel
  have h3 := h2 ⟨c.toNat, c.toNat_lt⟩
  simp only [UInt8.ofNat_toNat] at h3
  exact h3 h
theorem dec_hexL (q : UInt8) : b8 (posH (b8 (digN (q.toNat / 16) : Nat)) * 16 + posH (b8 (digN (q.toNat % 16) : Nat))) = q := by
  have hq := q.toNat_lt
  rw [dig_posV _ (by omega), dig_posV _ (by omega)]
  apply UInt8.toNat_inj.1
  have := b8_toNat (((q.toNat / 16 : Nat) : Int) * 16 + ((q.toNat % 16 : Nat) : Int))
  omega
theorem decH_hex : ∀ l : List UInt8, decH (l.flatMap hexL) = l
  | [] => rfl
  | q :: l => by
    rw [List.flatMap_cons]
    show b8 (posH (b8 (digN (q.toNat / 16) : Nat)) * 16 + posH (b8 (digN (q.toNat % 16) : Nat))) :: decH (l.flatMap hexL) = _
    rw [dec_hexL, decH_hex l]
theorem fromB_text (bs : List UInt8) : fromB (textB bs) = bs := by unfold fromB textB; rw [decH_hex, List.reverse_reverse]
theorem good_text {bs : List UInt8} (h : bs.length = 32) : GoodT (textB bs) := by
  refine ⟨by rw [textB_length, h], fun c hc => ?_⟩
  unfold textB at hc
  obtain ⟨q, _, hq⟩ := List.mem_flatMap.1 hc
  have hq2 := q.toNat_lt
  simp only [hexL, List.mem_cons, List.not_mem_nil, or_false] at hq
  rcases hq with rfl | rfl
  · rw [dig_posV _ (by omega)]; omega
  · rw [dig_posV _ (by omega)]; omega
theorem hexL_dec (a b : UInt8) (ha : 0 ≤ posH a) (hb : 0 ≤ posH b) : hexL (b8 (posH a * 16 + posH b)) = [a, b] := by
  have la := posH_lt a
  have lb := posH_lt b
  have h := b8_toNat (posH a * 16 + posH b)
  have e1 : (b8 (posH a * 16 + posH b)).toNat / 16 = (posH a).toNat := by omega
  have e2 : (b8 (posH a * 16 + posH b)).toNat % 16 = (posH b).toNat := by omega
  unfold hexL
  rw [e1, e2, posV_dig a ha, posV_dig b hb]
theorem hex_decH : ∀ (n : Nat) (cs : List UInt8), cs.length = 2 * n → (∀ c ∈ cs, 0 ≤ posH c) → (decH cs).flatMap hexL = cs
  | 0, cs, h, _ => by
    have : cs = [] := List.eq_nil_of_length_eq_zero (by omega)
    subst this
    rfl
  | n + 1, a :: b :: r, h, hg => by
    rw [decH, List.flatMap_cons, hexL_dec a b (hg a (by simp)) (hg b (by simp)), hex_decH n r (by simp only [List.length_cons] at h; omega) (fun c hc => hg c (by simp [hc]))]
    rfl
  | n + 1, [x], h, _ => by simp at h; omega
  | n + 1, [], h, _ => by simp at h
theorem text_fromB {cs : List UInt8} (h : GoodT cs) : textB (fromB cs) = cs := by
  unfold textB fromB
  rw [List.reverse_reverse]
  exact hex_decH 32 cs h.1 h.2
theorem fromB_length {cs : List UInt8} (h : cs.length = 64) : (fromB cs).length = 32 := by
  unfold fromB
  rw [List.length_reverse, decH_length 32 cs h]
end Go.Proofs.YtpcopimbnbmkmaaDoor

/-
  hash.FromText, walked. Conditions: none.
-/
namespace Go.Proofs.YtpcopimbnbmkmaaDoor
open Go.RowKit

def FromPost (W0 : World) (cs : List UInt8) (e : Ending) (w' : World) : Prop :=
  Below W0.heap.size W0 w' ∧ (GoodT cs ∧ e = .returned (.tuple #[digV (fromB cs), .int .i64 0]) ∨ ¬ GoodT cs ∧ e = .returned (.tuple #[digV (List.replicate 32 0), .int .i64 3]))
theorem nums_zero (n : Nat) : nums (List.replicate n 0) = List.replicate n 0 := by unfold nums; rw [List.map_replicate]; rfl
/-- Behind i rounds. -/
def rowF (cs : List UInt8) (i : Nat) : List UInt8 := List.replicate (32 - i) 0 ++ (decH (cs.take (2 * i))).reverse
theorem rowF_zero (cs : List UInt8) : rowF cs 0 = List.replicate 32 0 := by unfold rowF; simp [decH]
theorem rowF_full {cs : List UInt8} (h : cs.length = 64) : rowF cs 32 = fromB cs := by
  unfold rowF fromB
  rw [List.take_of_length_le (by omega)]
  rfl
theorem rowF_length {cs : List UInt8} {i : Nat} (h : cs.length = 64) (hi : i ≤ 32) : (rowF cs i).length = 32 := by
  unfold rowF
  rw [List.length_append, List.length_reverse, List.length_replicate, decH_length i _ (by rw [List.length_take]; omega)]
  omega
theorem rowF_next {cs : List UInt8} {i : Nat} {a b : UInt8} (h : cs.length = 64) (hi : i < 32) (ha : cs[2 * i]? = some a) (hb : cs[2 * i + 1]? = some b) :
    (rowF cs i).set (31 - i) (b8 (posH a * 16 + posH b)) = rowF cs (i + 1) := by
  have e : cs.take (2 * (i + 1)) = cs.take (2 * i) ++ [a, b] := by
    rw [show 2 * (i + 1) = 2 * i + 1 + 1 by omega, List.take_add_one, List.take_add_one, ha, hb]
    simp
  unfold rowF
  rw [e, decH_snoc i _ _ _ (by rw [List.length_take]; omega), List.reverse_append]
  obtain ⟨m, hm⟩ : ∃ m, 32 - i = m + 1 := ⟨31 - i, by omega⟩
  have em : 31 - i = m := by omega
  have en : 32 - (i + 1) = m := by omega
  rw [hm, em, en, List.replicate_succ', List.append_assoc, List.set_append_right _ _ (by rw [List.length_replicate]; omega), List.length_replicate, Nat.sub_self]
  rfl
end Go.Proofs.YtpcopimbnbmkmaaDoor

/-
  The laws' fixed fact: the digest of "abc". Conditions: the roots are laid.
-/
namespace Go.Proofs.YtpcopimbnbmkmaaDoor
open Go.RowKit

def abcD : List UInt8 := [0xba, 0x78, 0x16, 0xbf, 0x8f, 0x01, 0xcf, 0xea, 0x41, 0x41, 0x40, 0xde, 0x5d, 0xae, 0x22, 0x23, 0xb0, 0x03, 0x61, 0xa3, 0x96, 0x17, 0x7a, 0x9c, 0xb4, 0x10, 0xff, 0x61, 0xf2, 0x00, 0x15, 0xad]
theorem abc_is : sha256 [97, 98, 99] = abcD := sha_abc
theorem Byt.madeF (w : World) (e : TypeId) (l : List Value) (fr : Nat × Nat) (ys : List UInt8) (h : l = ys.map bv) (hl : ys.length ≤ maxLen) :
    Byt (w.alloc (.cells l.toArray e fr)) (w.heap.size + 1) (.slice (some ⟨w.heap.size, 0, none⟩) ys.length ys.length) ys := by
  refine ⟨_, _, rfl, Nat.le_refl _, hl, (by intro h; cases h), fun _ => ⟨_, _, rfl, by omega, fun j u hu => ?_⟩⟩
  rw [Nat.zero_add]
  show (w.alloc (.cells l.toArray e fr)).cell? ⟨w.heap.size, j, none⟩ = _
  rw [cell_of_row _ w.heap.size j _ _ _ (heap_alloc_new w _), h]
  simp [hu]
theorem wpList_load_irow_g {ops : Array Oper} {rest : List Oper} {op : Oper} {a : Act} {w : World} {Q : Exit → Act → World → Prop} (hgd : Region.wanted op (yielded ops a.tmps) = true) (ty : TypeId) (x : Operand) (ho : op.op = .load ty x)
    {g : Nat} {t : TypeId} {k : IntKind} {xs : List Int} {n : Nat} {e : TypeId} (hx : a.eval x = .pointer (some ⟨g, 0, none⟩)) (h : IRow w g t k xs) (hu : Tryd.prog.underlying ty = some (.array n e)) (hi : (Tryd.prog.info? ty).map (·.size) = some xs.length)
    (hn : wpList Tryd.prog ops Q rest (a.put op.dst (.agg (xs.map (Value.int k)).toArray)) w) : wpList Tryd.prog ops Q (op :: rest) a w :=
  wpList_step fun K hK => by
    rw [if_pos hgd]
    unfold Oper.wp execOp
    simp only [ho, hx, loadAt_irow h hu hi, Sem.run_bind, Sem.run_pure, Result.andThen_ok]
    exact hK _ _ hn
set_option maxRecDepth 100000 in
set_option maxHeartbeats 1600000 in
theorem hawake_any (w : World) (hr : Roots w) :
    Calls Tryd.prog 5 #[] w fun e w' => e = .returned (.bool true) ∧ Below w.heap.size w w' := by
  have hm : Byt (w.alloc (.cells #[.int .u8 97, .int .u8 98, .int .u8 99] 5 (3, 4))) (w.heap.size + 1) (.slice (some ⟨w.heap.size, 0, none⟩) 3 3) [97, 98, 99] :=
    Byt.madeF w _ [_, _, _] (3, 4) [97, 98, 99] rfl (by unfold maxLen; simp)
  have bA : Below w.heap.size w (w.alloc (.cells #[.int .u8 97, .int .u8 98, .int .u8 99] 5 (3, 4))) := (Below.refl _ w).alloc (Nat.le_refl _) _
  have C1 := Lib.hid (sum256_any _ _ _ _ hm (by simp) (by simp) (hr.below bA))
  have BA := Lib.hid bA
  have kc := fun (w : World) (C : Array Value) (n c : Nat) => Lib.run_convert_bytes_const (P := Tryd.prog) w 22 5 C n c Tryd.underlying22 Tryd.underlying5
  clear hm bA hr
  go_enter Tryd.func5, Tryd.ntmps5
  go_wp2_with fail
  refine C1.out.mono ?_
  rintro e w2 ⟨rfl, hb2⟩
  rw [abc_is]
  have hb3 := BA.out.trans (hb2.mono (by simp))
  have B3 := Lib.hid hb3
  have hz : w.heap.size ≤ w2.heap.size := hb3.size
  clear hb2 hb3 kc
  have hsz : (nums abcD).length = 32 := rfl
  have HI := Lib.hid (show (Tryd.prog.info? 28).map (·.size) = some (nums abcD).length by rw [hsz]; exact info_h)
  have HL := Lib.hid (show (List.replicate 32 (0 : Int)).length = (nums abcD).length by rw [hsz]; rfl)
  have rC := IRow.new w2 28 .u8 (List.replicate 32 0)
  have rC2 := setRow_irow (ys := nums abcD) rC
  have bC : Below w2.heap.size w2 ((w2.alloc (.cells ((List.replicate 32 (0 : Int)).map (Value.int .u8)).toArray 28)).setRow w2.heap.size ((nums abcD).map (Value.int .u8)).toArray) := below_setRow ((Below.refl _ w2).alloc (Nat.le_refl _) _) (Nat.le_refl _) _
  have RC := Lib.hid rC
  have RC2 := Lib.hid rC2
  have BC := Lib.hid bC
  have HZ := Lib.hid hz
  clear hsz rC rC2 bC hz
  unfold digV
  go_upto_region 2 with (refine wpList_store_irow rfl 28 (.tmp 1) (.tmp 4) rfl (g := w2.heap.size) (t := 28) (k := .u8) (xs := List.replicate 32 0) (ys := nums abcD) rfl rfl RC.out HI.out HL.out ?_)
  change Code.wp _ _ _ _ ((w2.alloc (.cells ((List.replicate 32 (0 : Int)).map (Value.int .u8)).toArray 28)).setRow w2.heap.size ((nums abcD).map (Value.int .u8)).toArray)
  obtain ⟨w3, hw3⟩ : ∃ x, x = (w2.alloc (.cells ((List.replicate 32 (0 : Int)).map (Value.int .u8)).toArray 28)).setRow w2.heap.size ((nums abcD).map (Value.int .u8)).toArray := ⟨_, rfl⟩
  rw [← hw3]
  have r3 : IRow w3 w2.heap.size 28 .u8 (nums abcD) := by rw [hw3]; exact RC2.out
  have b3 := B3.out.trans ((show Below w2.heap.size w2 w3 by rw [hw3]; exact BC.out).mono HZ.out)
  have c0 : w3.cell? ⟨w2.heap.size, 0, none⟩ = some (.int .u8 186) := r3.cell rfl
  have c1 : w3.cell? ⟨w2.heap.size, 1, none⟩ = some (.int .u8 120) := r3.cell rfl
  have c31 : w3.cell? ⟨w2.heap.size, 31, none⟩ = some (.int .u8 173) := r3.cell rfl
  obtain ⟨S, hS⟩ : ∃ S : ByteArray, S = ⟨(textB abcD).toArray⟩ := ⟨_, rfl⟩
  have hs1 : (4 : Int) ≤ (S.size : Int) := by rw [hS]; show (4 : Int) ≤ ((textB abcD).toArray.size : Int); rw [List.size_toArray, textB_length]; decide
  have hs2 : S.extract 0 4 = ⟨#[97, 100, 49, 53]⟩ := by rw [hS]; decide +kernel
  have CT := Lib.hid (htext_any abcD w3 rfl)
  rw [← hS] at CT
  have HS2 := Lib.hid hs2
  have HS1 := Lib.hid hs1
  have R3 := Lib.hid r3
  have B4 := Lib.hid b3
  clear hw3 r3 b3 hS hs1 hs2 RC RC2 BC HL
  dsimp only [Act.put]
  go_wp2_with (refine wpList_load_irow_g rfl 28 (.tmp 1) rfl (g := w2.heap.size) (t := 28) (k := .u8) (xs := nums abcD) rfl R3.out Tryd.underlying28 HI.out ?_)
  refine CT.out.mono ?_
  rintro e w4 ⟨rfl, hb4⟩
  have B5 := Lib.hid (B4.out.trans (hb4.mono B4.out.size))
  have hs2 := HS2.out
  have hs1 := HS1.out
  clear hb4 c0 c1 c31
  go_wp2_with fail
  go_ret
  exact ⟨rfl, B5.out⟩
end Go.Proofs.YtpcopimbnbmkmaaDoor
