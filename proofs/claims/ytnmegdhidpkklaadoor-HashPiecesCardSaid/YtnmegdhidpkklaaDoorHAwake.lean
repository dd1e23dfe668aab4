/-
  The laws' fixed fact: the digest of "abc". Conditions: the roots are laid.
-/
import Derived.Test.YtnmegdhidpkklaaDoorFromT2
import Derived.Lib.SlBytesConst
namespace Go.Proofs.YtnmegdhidpkklaaDoor
open Go.RowKit

def abcD : List UInt8 := [0xba, 0x78, 0x16, 0xbf, 0x8f, 0x01, 0xcf, 0xea, 0x41, 0x41, 0x40, 0xde, 0x5d, 0xae, 0x22, 0x23, 0xb0, 0x03, 0x61, 0xa3, 0x96, 0x17, 0x7a, 0x9c, 0xb4, 0x10, 0xff, 0x61, 0xf2, 0x00, 0x15, 0xad]
theorem abc_is : sha256 [97, 98, 99] = abcD := sha_abc
theorem Byt.madeF (w : World) (e : TypeId) (l : List Value) (fr : Nat × Nat) (ys : List UInt8) (h : l = ys.map bv) (hl : ys.length ≤ maxLen) :
    Byt (w.alloc (.cells l.toArray e fr)) (w.heap.size + 1) (.slice (some ⟨w.heap.size, 0, none⟩) ys.length ys.length) ys := by
  refine ⟨_, _, rfl, Nat.le_refl _, hl, (by intro h; cases h), fun _ => ⟨_, _, rfl, by omega, fun j u hu => ?_⟩⟩
  rw [Nat.zero_add]
  show (w.alloc (.cells l.toArray e fr)).cell? ⟨w.heap.size, j, none⟩ = _
  rw [cell_of_row _ w.heap.size j _ _ _ (heap_alloc_new w _), h]
  simp [hu]
theorem wpList_load_irow_g {ops : Array Oper} {rest : List Oper} {op : Oper} {a : Act} {w : World} {Q : Exit → Act → World → Prop} (hgd : Region.wanted op (yielded ops a.tmps) = true) (ty : TypeId) (x : Operand) (ho : op.op = .load ty x)
    {g : Nat} {t : TypeId} {k : IntKind} {xs : List Int} {n : Nat} {e : TypeId} (hx : a.eval x = .pointer (some ⟨g, 0, none⟩)) (h : IRow w g t k xs) (hu : Tryd.prog.underlying ty = some (.array n e)) (hi : (Tryd.prog.info? ty).map (·.size) = some xs.length)
    (hn : wpList Tryd.prog ops Q rest (a.put op.dst (.agg (xs.map (Value.int k)).toArray)) w) : wpList Tryd.prog ops Q (op :: rest) a w :=
  wpList_step fun K hK => by
    rw [if_pos hgd]
    unfold Oper.wp execOp
    simp only [ho, hx, loadAt_irow h hu hi, Sem.run_bind, Sem.run_pure, Result.andThen_ok]
    exact hK _ _ hn
set_option maxRecDepth 100000 in
set_option maxHeartbeats 1600000 in
theorem hawake_any (w : World) (hr : Roots w) :
    Calls Tryd.prog 8 #[] w fun e w' => e = .returned (.bool true) ∧ Below w.heap.size w w' := by
  have hm : Byt (w.alloc (.cells #[.int .u8 97, .int .u8 98, .int .u8 99] 5 (3, 4))) (w.heap.size + 1) (.slice (some ⟨w.heap.size, 0, none⟩) 3 3) [97, 98, 99] :=
    Byt.madeF w _ [_, _, _] (3, 4) [97, 98, 99] rfl (by unfold maxLen; simp)
  have bA : Below w.heap.size w (w.alloc (.cells #[.int .u8 97, .int .u8 98, .int .u8 99] 5 (3, 4))) := (Below.refl _ w).alloc (Nat.le_refl _) _
  have C1 := Lib.hid (sum256_any _ _ _ _ hm (by simp) (by simp) (hr.below bA))
  have BA := Lib.hid bA
  have kc := fun (w : World) (C : Array Value) (n c : Nat) => Lib.run_convert_bytes_const (P := Tryd.prog) w 22 5 C n c Tryd.underlying22 Tryd.underlying5
  clear hm bA hr
  go_enter Tryd.func8, Tryd.ntmps8
  go_wp2_with fail
  refine C1.out.mono ?_
  rintro e w2 ⟨rfl, hb2⟩
  rw [abc_is]
  have hb3 := BA.out.trans (hb2.mono (by simp))
  have B3 := Lib.hid hb3
  have hz : w.heap.size ≤ w2.heap.size := hb3.size
  clear hb2 hb3 kc
  have hsz : (nums abcD).length = 32 := rfl
  have HI := Lib.hid (show (Tryd.prog.info? 28).map (·.size) = some (nums abcD).length by rw [hsz]; exact info_h)
  have HL := Lib.hid (show (List.replicate 32 (0 : Int)).length = (nums abcD).length by rw [hsz]; rfl)
  have rC := IRow.new w2 28 .u8 (List.replicate 32 0)
  have rC2 := setRow_irow (ys := nums abcD) rC
  have bC : Below w2.heap.size w2 ((w2.alloc (.cells ((List.replicate 32 (0 : Int)).map (Value.int .u8)).toArray 28)).setRow w2.heap.size ((nums abcD).map (Value.int .u8)).toArray) := below_setRow ((Below.refl _ w2).alloc (Nat.le_refl _) _) (Nat.le_refl _) _
  have RC := Lib.hid rC
  have RC2 := Lib.hid rC2
  have BC := Lib.hid bC
  have HZ := Lib.hid hz
  clear hsz rC rC2 bC hz
  unfold digV
  go_upto_region 2 with (refine wpList_store_irow rfl 28 (.tmp 1) (.tmp 4) rfl (g := w2.heap.size) (t := 28) (k := .u8) (xs := List.replicate 32 0) (ys := nums abcD) rfl rfl RC.out HI.out HL.out ?_)
  change Code.wp _ _ _ _ ((w2.alloc (.cells ((List.replicate 32 (0 : Int)).map (Value.int .u8)).toArray 28)).setRow w2.heap.size ((nums abcD).map (Value.int .u8)).toArray)
  obtain ⟨w3, hw3⟩ : ∃ x, x = (w2.alloc (.cells ((List.replicate 32 (0 : Int)).map (Value.int .u8)).toArray 28)).setRow w2.heap.size ((nums abcD).map (Value.int .u8)).toArray := ⟨_, rfl⟩
  rw [← hw3]
  have r3 : IRow w3 w2.heap.size 28 .u8 (nums abcD) := by rw [hw3]; exact RC2.out
  have b3 := B3.out.trans ((show Below w2.heap.size w2 w3 by rw [hw3]; exact BC.out).mono HZ.out)
  have c0 : w3.cell? ⟨w2.heap.size, 0, none⟩ = some (.int .u8 186) := r3.cell rfl
  have c1 : w3.cell? ⟨w2.heap.size, 1, none⟩ = some (.int .u8 120) := r3.cell rfl
  have c31 : w3.cell? ⟨w2.heap.size, 31, none⟩ = some (.int .u8 173) := r3.cell rfl
  obtain ⟨S, hS⟩ : ∃ S : ByteArray, S = ⟨(textB abcD).toArray⟩ := ⟨_, rfl⟩
  have hs1 : (4 : Int) ≤ (S.size : Int) := by rw [hS]; show (4 : Int) ≤ ((textB abcD).toArray.size : Int); rw [List.size_toArray, textB_length]; decide
  have hs2 : S.extract 0 4 = ⟨#[97, 100, 49, 53]⟩ := by rw [hS]; decide +kernel
  have CT := Lib.hid (htext_any abcD w3 rfl)
  rw [← hS] at CT
  have HS2 := Lib.hid hs2
  have HS1 := Lib.hid hs1
  have R3 := Lib.hid r3
  have B4 := Lib.hid b3
  clear hw3 r3 b3 hS hs1 hs2 RC RC2 BC HL
  dsimp only [Act.put]
  go_wp2_with (refine wpList_load_irow_g rfl 28 (.tmp 1) rfl (g := w2.heap.size) (t := 28) (k := .u8) (xs := nums abcD) rfl R3.out Tryd.underlying28 HI.out ?_)
  refine CT.out.mono ?_
  rintro e w4 ⟨rfl, hb4⟩
  have B5 := Lib.hid (B4.out.trans (hb4.mono B4.out.size))
  have hs2 := HS2.out
  have hs1 := HS1.out
  clear hb4 c0 c1 c31
  go_wp2_with fail
  go_ret
  exact ⟨rfl, B5.out⟩
end Go.Proofs.YtnmegdhidpkklaaDoor
