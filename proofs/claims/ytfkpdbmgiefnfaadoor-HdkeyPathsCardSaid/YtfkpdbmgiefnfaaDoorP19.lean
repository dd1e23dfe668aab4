/-
  Texts joined: HkTold, FromT2, HAwake. Conditions: those of each.
-/
import Derived.Test.YtfkpdbmgiefnfaaDoorP18
import Derived.Test.YtfkpdbmgiefnfaaDoorP17
import Derived.Lib.IndexBytes
import Derived.Lib.SlBytesConst
/-
  The law's Told and hdkey's Private, walked. Conditions: a key of depth, finger and child 0.
-/
namespace Go.Proofs.YtfkpdbmgiefnfaaDoor.Hk
open Go.RowKit

theorem vrow_range {w : World} {g : Nat} {t : TypeId} {vs : List Value} (h : VRow w g t vs) (o n : Nat) : w.rangeAt g o ((vs.drop o).take n) := fun j v hv => by
  rw [List.getElem?_take] at hv
  split at hv
  · rw [List.getElem?_drop] at hv
    exact h.cell hv
  · cases hv
theorem vrow_alloc {w : World} {g : Nat} {t : TypeId} {vs : List Value} (h : VRow w g t vs) (o : Obj) : VRow (w.alloc o) g t vs := h.below ((Below.refl _ w).alloc (Nat.le_refl _) o) h.lt

set_option maxRecDepth 100000 in
set_option maxHeartbeats 6400000 in
theorem told_any (chain data : List UInt8) (w : World) (hc : chain.length = 32) (hd : data.length = 33) :
    Calls Tryd.prog 9 #[.agg (keyC chain data).toArray] w fun e w' => e = .returned (.agg (keyC chain data).toArray) ∧ Below w.heap.size w w' := by
  have r1 := vrow_alloc (VRow.new w 31 (keyC chain data)) (.cells zeroC.toArray 35)
  have r2 := VRow.new (w.alloc (.cells (keyC chain data).toArray 31)) 35 zeroC
  have b1 : Below w.heap.size w ((w.alloc (.cells (keyC chain data).toArray 31)).alloc (.cells zeroC.toArray 35)) := ((Below.refl _ w).alloc (Nat.le_refl _) _).alloc (by simp) _
  rw [World.size_alloc] at r2
  obtain ⟨wA, hwA⟩ : ∃ z, z = ((w.alloc (.cells (keyC chain data).toArray 31)).alloc (.cells zeroC.toArray 35)) := ⟨_, rfl⟩
  rw [← hwA] at r1 r2 b1
  obtain ⟨GA, hGA⟩ : ∃ g, g = w.heap.size := ⟨_, rfl⟩
  rw [← hGA] at r1 r2 b1
  have z1 := zero_rkey
  have c0 : wA.cell? ⟨GA, 0, none⟩ = some (.int .u8 0) := r1.cell rfl
  have c5 : wA.cell? ⟨GA, 5, none⟩ = some (.int .u32 0) := r1.cell rfl
  have g1 : wA.rangeAt GA 1 ((List.replicate 4 (0 : Int)).map (Value.int .u8)) := by rw [← keyC_finger chain data]; exact vrow_range r1 1 4
  have g6 : wA.rangeAt GA 6 ((nums chain).map (Value.int .u8)) := by rw [← keyC_chain data hc]; exact vrow_range r1 6 32
  have g38 : wA.rangeAt GA 38 ((nums data).map (Value.int .u8)) := by rw [← keyC_data hc hd]; exact vrow_range r1 38 33
  have BK := Lib.hid (fun W => build_rkey chain data hc hd W)
  have I32 := Lib.hid (show (Tryd.prog.info? 28).map (·.size) = some ((nums chain).map (Value.int .u8)).length by rw [List.length_map, nums_length, hc]; exact info_b32)
  have I33 := Lib.hid (show (Tryd.prog.info? 29).map (·.size) = some ((nums data).map (Value.int .u8)).length by rw [List.length_map, nums_length, hd]; exact info_b33)
  have IK := Lib.hid (show (Tryd.prog.info? 35).map (·.size) = some (keyC chain data).length by rw [keyC_length hc hd]; exact info_rkey)
  have LK := Lib.hid (show zeroC.length = (keyC chain data).length by rw [keyC_length hc hd]; rfl)
  have OK := Lib.hid (keyC_one chain data)
  obtain ⟨KC, hKC⟩ : ∃ l, l = keyC chain data := ⟨_, rfl⟩
  rw [← hKC] at hwA r1 BK IK LK OK ⊢
  have HF := Lib.hid (r2.setRow KC)
  have HB := Lib.hid (below_setRow b1 (by omega : GA ≤ GA + 1) KC.toArray)
  have R1 := Lib.hid r1
  have R2 := Lib.hid r2
  have G1 := Lib.hid g1
  have G6 := Lib.hid g6
  have G38 := Lib.hid g38
  have HWA := Lib.hid hwA
  have HGA := Lib.hid hGA
  clear hc hd r1 r2 b1 hwA hGA g1 g6 g38 hKC
  go_enter Tryd.func9, Tryd.ntmps9
  go_upto_region 1 with fail
  change Code.wp _ _ _ _ ((w.alloc (.cells KC.toArray 31)).alloc (.cells zeroC.toArray 35))
  rw [← HWA.out, show w.heap.size = GA from HGA.out.symm]
  clear HWA
  try dsimp only [Act.put]
  go_wp2_with (first
    | (refine wpList_load_mid rfl 26 (.tmp 5) rfl GA 1 rfl ((List.replicate 4 (0 : Int)).map (Value.int .u8)) _ G1.out Tryd.underlying26 rfl (by kernel_rfl) ?_)
    | (refine wpList_load_mid rfl 28 (.tmp 9) rfl GA 6 rfl ((nums chain).map (Value.int .u8)) _ G6.out Tryd.underlying28 rfl I32.out ?_)
    | (refine wpList_load_mid rfl 29 (.tmp 11) rfl GA 38 rfl ((nums data).map (Value.int .u8)) _ G38.out Tryd.underlying29 rfl I33.out ?_)
    | (refine S5.wpList_build_lit rfl 35 _ (.agg KC.toArray) rfl (fun W => by (simp only [List.map_toArray, List.map_cons, List.map_nil]; exact BK.out W)) ?_)
    | (refine wpList_store_vrow rfl 35 (.tmp 2) (.tmp 13) rfl (g := GA + 1) (t := 35) (vs := zeroC) (us := KC) rfl rfl R2.out IK.out LK.out OK.out ?_))
  refine bodyPost_ret (v := .agg KC.toArray) ?_ rfl ⟨rfl, by rw [← HGA.out]; exact HB.out⟩
  exact results_cell_row Tryd.results9 _ _ (GA + 1) 35 KC.toArray (0, 0) _ rfl HF.out Tryd.underlying35 rfl (by rw [List.size_toArray]; exact IK.out)

set_option maxRecDepth 100000 in
set_option maxHeartbeats 1600000 in
theorem private_any (chain data : List UInt8) (x : UInt8) (w : World) (hc : chain.length = 32) :
    Calls Tryd.prog 15 #[.agg (keyC chain (x :: data)).toArray] w fun e w' => e = .returned (.bool (decide ((x.toNat : Int) = 0))) ∧ Below w.heap.size w w' := by
  have r1 := VRow.new w 31 (keyC chain (x :: data))
  have b1 : Below w.heap.size w (w.alloc (.cells (keyC chain (x :: data)).toArray 31)) := (Below.refl _ w).alloc (Nat.le_refl _) _
  obtain ⟨wA, hwA⟩ : ∃ z, z = w.alloc (.cells (keyC chain (x :: data)).toArray 31) := ⟨_, rfl⟩
  rw [← hwA] at r1 b1
  obtain ⟨GA, hGA⟩ : ∃ g, g = w.heap.size := ⟨_, rfl⟩
  rw [← hGA] at r1 b1
  have hx : (keyC chain (x :: data))[38]? = some (.int .u8 (x.toNat : Int)) := by
    unfold keyC
    rw [List.getElem?_append_right (by simp [nums_length, hc])]
    simp [nums, hc]
  have c38 : wA.cell? ⟨GA, 38, none⟩ = some (.int .u8 (x.toNat : Int)) := r1.cell hx
  obtain ⟨KC, hKC⟩ : ∃ l, l = keyC chain (x :: data) := ⟨_, rfl⟩
  rw [← hKC] at hwA ⊢
  have B1 := Lib.hid b1
  have HWA := Lib.hid hwA
  have HGA := Lib.hid hGA
  clear hc r1 b1 hwA hGA hx hKC
  go_enter Tryd.func15, Tryd.ntmps15
  go_upto_region 1 with fail
  change Code.wp _ _ _ _ (w.alloc (.cells KC.toArray 31))
  rw [← HWA.out, show w.heap.size = GA from HGA.out.symm]
  clear HWA
  try dsimp only [Act.put]
  go_wp2_with fail
  go_ret
  exact ⟨congrArg (fun b => Ending.returned (Value.bool b)) (by first | rfl | (simp; done)), by rw [← HGA.out]; exact B1.out⟩
end Go.Proofs.YtfkpdbmgiefnfaaDoor.Hk

/-
  hash.FromText, walked. Conditions: none.
-/
namespace Go.Proofs.YtfkpdbmgiefnfaaDoor
open Go.RowKit

def FromPost (W0 : World) (cs : List UInt8) (e : Ending) (w' : World) : Prop :=
  Below W0.heap.size W0 w' ∧ (GoodT cs ∧ e = .returned (.tuple #[digV (fromB cs), .int .i64 0]) ∨ ¬ GoodT cs ∧ e = .returned (.tuple #[digV (List.replicate 32 0), .int .i64 3]))
theorem nums_zero (n : Nat) : nums (List.replicate n 0) = List.replicate n 0 := by unfold nums; rw [List.map_replicate]; rfl
/-- Behind i rounds. -/
def rowF (cs : List UInt8) (i : Nat) : List UInt8 := List.replicate (32 - i) 0 ++ (decH (cs.take (2 * i))).reverse
theorem rowF_zero (cs : List UInt8) : rowF cs 0 = List.replicate 32 0 := by unfold rowF; simp [decH]
theorem rowF_full {cs : List UInt8} (h : cs.length = 64) : rowF cs 32 = fromB cs := by
  unfold rowF fromB
  rw [List.take_of_length_le (by omega)]
  rfl
theorem rowF_length {cs : List UInt8} {i : Nat} (h : cs.length = 64) (hi : i ≤ 32) : (rowF cs i).length = 32 := by
  unfold rowF
  rw [List.length_append, List.length_reverse, List.length_replicate, decH_length i _ (by rw [List.length_take]; omega)]
  omega
theorem rowF_next {cs : List UInt8} {i : Nat} {a b : UInt8} (h : cs.length = 64) (hi : i < 32) (ha : cs[2 * i]? = some a) (hb : cs[2 * i + 1]? = some b) :
    (rowF cs i).set (31 - i) (b8 (posH a * 16 + posH b)) = rowF cs (i + 1) := by
  have e : cs.take (2 * (i + 1)) = cs.take (2 * i) ++ [a, b] := by
    rw [show 2 * (i + 1) = 2 * i + 1 + 1 by omega, List.take_add_one, List.take_add_one, ha, hb]
    simp
  unfold rowF
  rw [e, decH_snoc i _ _ _ (by rw [List.length_take]; omega), List.reverse_append]
  obtain ⟨m, hm⟩ : ∃ m, 32 - i = m + 1 := ⟨31 - i, by omega⟩
  have em : 31 - i = m := by omega
  have en : 32 - (i + 1) = m := by omega
  rw [hm, em, en, List.replicate_succ', List.append_assoc, List.set_append_right _ _ (by rw [List.length_replicate]; omega), List.length_replicate, Nat.sub_self]
  rfl
end Go.Proofs.YtfkpdbmgiefnfaaDoor

/-
  The laws' fixed fact: the digest of "abc". Conditions: the roots are laid.
-/
namespace Go.Proofs.YtfkpdbmgiefnfaaDoor
open Go.RowKit

def abcD : List UInt8 := [0xba, 0x78, 0x16, 0xbf, 0x8f, 0x01, 0xcf, 0xea, 0x41, 0x41, 0x40, 0xde, 0x5d, 0xae, 0x22, 0x23, 0xb0, 0x03, 0x61, 0xa3, 0x96, 0x17, 0x7a, 0x9c, 0xb4, 0x10, 0xff, 0x61, 0xf2, 0x00, 0x15, 0xad]
theorem abc_is : sha256 [97, 98, 99] = abcD := sha_abc
theorem Byt.madeF (w : World) (e : TypeId) (l : List Value) (fr : Nat × Nat) (ys : List UInt8) (h : l = ys.map bv) (hl : ys.length ≤ maxLen) :
    Byt (w.alloc (.cells l.toArray e fr)) (w.heap.size + 1) (.slice (some ⟨w.heap.size, 0, none⟩) ys.length ys.length) ys := by
  refine ⟨_, _, rfl, Nat.le_refl _, hl, (by intro h; cases h), fun _ => ⟨_, _, rfl, by omega, fun j u hu => ?_⟩⟩
  rw [Nat.zero_add]
  show (w.alloc (.cells l.toArray e fr)).cell? ⟨w.heap.size, j, none⟩ = _
  rw [cell_of_row _ w.heap.size j _ _ _ (heap_alloc_new w _), h]
  simp [hu]
theorem wpList_load_irow_g {ops : Array Oper} {rest : List Oper} {op : Oper} {a : Act} {w : World} {Q : Exit → Act → World → Prop} (hgd : Region.wanted op (yielded ops a.tmps) = true) (ty : TypeId) (x : Operand) (ho : op.op = .load ty x)
    {g : Nat} {t : TypeId} {k : IntKind} {xs : List Int} {n : Nat} {e : TypeId} (hx : a.eval x = .pointer (some ⟨g, 0, none⟩)) (h : IRow w g t k xs) (hu : Tryd.prog.underlying ty = some (.array n e)) (hi : (Tryd.prog.info? ty).map (·.size) = some xs.length)
    (hn : wpList Tryd.prog ops Q rest (a.put op.dst (.agg (xs.map (Value.int k)).toArray)) w) : wpList Tryd.prog ops Q (op :: rest) a w :=
  wpList_step fun K hK => by
    rw [if_pos hgd]
    unfold Oper.wp execOp
    simp only [ho, hx, loadAt_irow h hu hi, Sem.run_bind, Sem.run_pure, Result.andThen_ok]
    exact hK _ _ hn
end Go.Proofs.YtfkpdbmgiefnfaaDoor
