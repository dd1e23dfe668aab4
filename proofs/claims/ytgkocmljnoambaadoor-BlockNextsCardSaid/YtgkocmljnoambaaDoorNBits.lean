/-
  block.Bits and the reference's: the bits that stand for a number. Conditions: none.
-/
import Derived.Test.YtgkocmljnoambaaDoorNTrim
namespace Go.Proofs.YtgkocmljnoambaaDoor
open Go.RowKit

def dgz (n i : Nat) : Nat := if i < 32 then dg n i else 0
theorem dgz_lt (n i : Nat) : dgz n i < 256 := by unfold dgz; split; exact dg_lt _ _; omega
def three (n f : Nat) : Nat := dgz n f * 65536 + dgz n (f + 1) * 256 + dgz n (f + 2)
theorem three_lt (n f : Nat) : three n f < 16777216 := by
  have := dgz_lt n f
  have := dgz_lt n (f + 1)
  have := dgz_lt n (f + 2)
  unfold three
  omega
/-- The bits of a number whose first f digits are 0. -/
def bitsR (n f : Nat) : Nat := if 8388608 ≤ three n f then (33 - f) * 16777216 + three n f / 256 else (32 - f) * 16777216 + three n f
def row3 (n f : Nat) : List Int := [((dgz n f : Nat) : Int), ((dgz n (f + 1) : Nat) : Int), ((dgz n (f + 2) : Nat) : Int)]
theorem size_3 : (Tryd.prog.info? 52).map (·.size) = some 3 := by kernel_rfl

theorem copy_three {w : World} {g h n f : Nat} {t ty : TypeId} (hf : f ≤ 32) (hr : IRow w g t .u8 (num n)) (hz : IRow w h 52 .u8 [0, 0, 0]) :
    ∃ q, (Builtin.copy_ #[44, 44] ty #[.slice (some ⟨h, 0, none⟩) 3 3, trimV g f]).run Tryd.prog w = .ok (goInt q) (w.setRow h ((row3 n f).map (Value.int .u8)).toArray) := by
  obtain ⟨i0, hi, hz0, hz1, hz2⟩ := info_parts info_u8
  unfold IRow at hz
  by_cases h32 : f = 32
  · refine ⟨0, ?_⟩
    subst h32
    have e : row3 n 32 = [0, 0, 0] := by simp [row3, dgz]
    rw [show trimV g 32 = .slice none 0 0 from rfl, run_copy_nil (P := Tryd.prog) w _ _ ty 5 _ 3 3 slice_u8 (by rw [hi]; rfl), e, setRow_self w h _ _ _ hz]
  · have ht : trimV g f = .slice (some ⟨g, f, none⟩) (32 - f) (32 - f) := by unfold trimV leftV offK; rw [if_neg h32, if_neg h32]
    rw [ht]
    obtain ⟨q, hq⟩ : ∃ q, q = Nat.min (32 - f) 3 := ⟨_, rfl⟩
    have hq3 : q ≤ 3 := by rw [hq]; exact Nat.min_le_right _ _
    have hqf : q ≤ 32 - f := by rw [hq]; exact Nat.min_le_left _ _
    have hr2 := run_copy_row (P := Tryd.prog) w 44 44 ty 5 h 0 3 3 ⟨g, f, none⟩ (32 - f) (32 - f) ((([0, 0, 0] : List Int).map (Value.int .u8)).toArray) 52 ((List.range q).map fun j => Value.int .u8 ((dg n (f + j) : Nat) : Int)) slice_u8 (by rw [hi]; simp [hz1]) hz (by simp [hq]) (fun j v hv => by
      have hj : j < q := by have := (List.getElem?_eq_some_iff.1 hv).1; simpa using this
      rw [List.getElem?_map, List.getElem?_range hj] at hv
      rw [← Option.some.inj hv]
      have hadd : (⟨g, f, none⟩ : Addr).add j = ⟨g, f + j, none⟩ := by unfold Addr.add; split <;> simp_all
      rw [hadd]
      exact hr.cell (num_at n (by omega))) (by simp; omega) (fun v hv => by obtain ⟨j, _, rfl⟩ := List.mem_map.1 hv; rfl)
    simp only [List.length_map, List.length_range] at hr2
    refine ⟨(q : Int), hr2.trans ?_⟩
    congr 2
    have hcase : q = 1 ∧ f = 31 ∨ q = 2 ∧ f = 30 ∨ q = 3 ∧ f + 2 < 32 := by
      have : Nat.min (32 - f) 3 = min (32 - f) 3 := rfl
      omega
    rcases hcase with ⟨rfl, rfl⟩ | ⟨rfl, rfl⟩ | ⟨rfl, h2⟩
    · simp [row3, dgz, List.range_succ]
    · simp [row3, dgz, List.range_succ]
    · simp [row3, dgz, List.range_succ, h2, show f < 32 by omega, show f + 1 < 32 by omega]
theorem wpList_copy_three {w : World} {ops : Array Oper} {rest : List Oper} {o : Oper} {a : Act} {Q : Exit → Act → World → Prop} (hgd : o.guard = none) (s x : Operand)
    (ho : o.op = .call { callee := .builtin .copy, args := #[s, x], argTypes := #[44, 44] })
    {g h n f : Nat} {t : TypeId} (hd : a.eval s = .slice (some ⟨h, 0, none⟩) 3 3) (hx : a.eval x = trimV g f) (hf : f ≤ 32) (hr : IRow w g t .u8 (num n)) (hz : IRow w h 52 .u8 [0, 0, 0])
    (hK : ∀ q : Int, wpList Tryd.prog ops Q rest (a.put o.dst (.int .i64 q)) (w.setRow h ((row3 n f).map (Value.int .u8)).toArray)) : wpList Tryd.prog ops Q (o :: rest) a w :=
  wpList_plain hgd fun _ hk' => by
    obtain ⟨q, hrun⟩ := copy_three (ty := o.type) hf hr hz
    unfold Oper.wp execOp
    simp only [ho, resolve, invoke, builtin, Sem.run_bind, Sem.run_pure, Result.andThen_ok, List.map_toArray, List.map_cons, List.map_nil, hd, hx, hrun]
    exact hk' _ _ (hK q)

theorem or_join {a b : Nat} {k : Nat} (ha : a % 2 ^ k = 0) (hb : b < 2 ^ k) (h1 : a < 4294967296) (h2 : b < 4294967296) : bits .or .u32 (a : Int) (b : Int) = ((a + b : Nat) : Int) := by
  rw [u32_or_nat a b h1 h2, nat_join k a b ha hb]

theorem u32_in {n : Int} (h0 : 0 ≤ n) (h1 : n < 4294967296) : IntKind.u32.wrap n = n := by rw [IntKind.wrap_u32']; omega
set_option maxRecDepth 100000 in
set_option maxHeartbeats 3200000 in
theorem bits_any (n f : Nat) (w : World) (hf : LZ n f) :
    Calls Tryd.prog 9 #[numV n] w fun e w' => e = .returned (.int .u32 (bitsR n f : Nat)) ∧ Below w.heap.size w w' := by
  obtain ⟨R, hR⟩ : ∃ R, R = bitsR n f := ⟨_, rfl⟩
  rw [← hR]
  have HRR := Lib.hid hR
  have r1 := IRow.new w 24 .u8 (num n)
  obtain ⟨W, hW⟩ : ∃ W, w.alloc (.cells (numA n) 24) = W := ⟨_, rfl⟩
  change IRow (w.alloc (.cells (numA n) 24)) _ _ _ _ at r1
  have bA : Below w.heap.size w W := by rw [← hW]; exact (Below.refl _ w).alloc (Nat.le_refl _) _
  have hs : W.heap.size = w.heap.size + 1 := by rw [← hW]; simp
  rw [hW] at r1
  have C := Lib.hid (trimLeft_any n f w.heap.size _ W hf r1)
  have hfl := hf.le
  have r3 := IRow.new W 52 .u8 [0, 0, 0]
  rw [hs] at r3
  have R1 := Lib.hid (r1.alloc (.cells (([0, 0, 0] : List Int).map (Value.int .u8)).toArray 52))
  have R3 := Lib.hid r3
  have HB := Lib.hid (bA.alloc (o := .cells (([0, 0, 0] : List Int).map (Value.int .u8)).toArray 52) bA.size)
  have HW := Lib.hid hW
  have HS := Lib.hid hs
  have HF := Lib.hid hf
  clear hR r1 bA hs r3 hW hf
  unfold numV
  go_enter Tryd.func9, Tryd.ntmps9
  go_wp2_with fail
  rw [HW.out]
  refine C.out.mono ?_
  rintro e w' ⟨rfl, rfl⟩
  have hlen : ∃ A c, trimV w.heap.size f = .slice A (32 - f) c := by
    unfold trimV leftV
    split
    · rename_i h; subst h; exact ⟨_, _, rfl⟩
    · exact ⟨_, _, rfl⟩
  obtain ⟨A, c, htv⟩ := hlen
  have HTV := Lib.hid htv
  rw [htv]
  obtain ⟨S, hS⟩ : ∃ S, S = 32 - f := ⟨_, rfl⟩
  have hS32 : S ≤ 32 := by omega
  rw [← hS] at HTV ⊢
  have HSS := Lib.hid hS
  clear htv hS
  have w32 : IntKind.u32.wrap (S : Int) = S := u32_in (by omega) (by omega)
  go_upto_region 4 with fail
  rw [HS.out]
  change Code.wp _ _ _ _ (W.alloc (.cells (([0, 0, 0] : List Int).map (Value.int .u8)).toArray 52))
  obtain ⟨W4, hW4⟩ : ∃ W4, W4 = W.alloc (.cells (([0, 0, 0] : List Int).map (Value.int .u8)).toArray 52) := ⟨_, rfl⟩
  rw [← hW4] at R1 R3 HB ⊢
  have HX := Lib.hid (show (Value.slice A S c) = trimV w.heap.size f from HTV.out.symm)
  clear hW4
  go_upto_region 5 with (refine wpList_copy_three rfl (.tmp 12) (.tmp 13) rfl (g := w.heap.size) (h := w.heap.size + 1) (n := n) (f := f) rfl HX.out hfl R1.out R3.out ?_; intro q)
  try dsimp only [Act.put]
  obtain ⟨W5, hW5⟩ : ∃ W5, W5 = W4.setRow (w.heap.size + 1) ((row3 n f).map (Value.int .u8)).toArray := ⟨_, rfl⟩
  have r5 : IRow W5 (w.heap.size + 1) 52 .u8 (row3 n f) := by rw [hW5]; exact setRow_irow R3.out
  have b5 : Below w.heap.size w W5 := by rw [hW5]; exact below_setRow HB.out (by omega) _
  rw [← hW5]
  have c0 : W5.cell? ⟨w.heap.size + 1, 0, none⟩ = some (.int .u8 ((dgz n f : Nat) : Int)) := r5.cell rfl
  have c1 : W5.cell? ⟨w.heap.size + 1, 1, none⟩ = some (.int .u8 ((dgz n (f + 1) : Nat) : Int)) := r5.cell rfl
  have c2 : W5.cell? ⟨w.heap.size + 1, 2, none⟩ = some (.int .u8 ((dgz n (f + 2) : Nat) : Int)) := r5.cell rfl
  have h0 := dgz_lt n f
  have h1 := dgz_lt n (f + 1)
  have h2 := dgz_lt n (f + 2)
  obtain ⟨t0, ht0⟩ : ∃ t, t = dgz n f := ⟨_, rfl⟩
  obtain ⟨t1, ht1⟩ : ∃ t, t = dgz n (f + 1) := ⟨_, rfl⟩
  obtain ⟨t2, ht2⟩ : ∃ t, t = dgz n (f + 2) := ⟨_, rfl⟩
  obtain ⟨M, hM⟩ : ∃ M, M = three n f := ⟨_, rfl⟩
  have hM2 : M = t0 * 65536 + t1 * 256 + t2 := by rw [hM, ht0, ht1, ht2]; rfl
  rw [← ht0] at c0 h0
  rw [← ht1] at c1 h1
  rw [← ht2] at c2 h2
  have hMl : M < 16777216 := by omega
  have o1 : bits .or .u32 ((t0 : Int) * 65536) ((t1 : Int) * 256) = (t0 : Int) * 65536 + (t1 : Int) * 256 := by
    have h := or_join (a := t0 * 65536) (b := t1 * 256) (k := 16) (by omega) (by omega) (by omega) (by omega)
    simpa using h
  have o2 : bits .or .u32 ((t0 : Int) * 65536 + (t1 : Int) * 256) (t2 : Int) = (M : Int) := by
    have h := or_join (a := t0 * 65536 + t1 * 256) (b := t2) (k := 8) (by omega) (by omega) (by omega) (by omega)
    rw [hM2]
    simpa using h
  have HM := Lib.hid hM
  have HB5 := Lib.hid b5
  clear hW5 r5 b5 ht0 ht1 ht2 hM hM2
  by_cases hbig : 8388608 ≤ M
  · have hd : decide ((8388608 : Int) ≤ (M : Int)) = true := decide_eq_true (by omega)
    have hr : R = (S + 1) * 16777216 + M / 256 := by
      rw [HRR.out]
      unfold bitsR
      rw [← HM.out, if_pos hbig, HSS.out]
      congr 2
      omega
    have o3 : bits .or .u32 (((S : Int) + 1) * 16777216) ((M : Int) / 256) = (R : Int) := by
      have h := or_join (a := (S + 1) * 16777216) (b := M / 256) (k := 24) (by omega) (by omega) (by omega) (by omega)
      rw [hr]
      simpa using h
    have w1 : IntKind.u32.wrap ((S : Int) + 1) = (S : Int) + 1 := u32_in (by omega) (by omega)
    have HR := Lib.hid hr
    clear hr
    go_wp2_with fail
    go_ret
    exact ⟨rfl, HB5.out⟩
  · have hd : decide ((8388608 : Int) ≤ (M : Int)) = false := decide_eq_false (by omega)
    have hr : R = S * 16777216 + M := by
      rw [HRR.out]
      unfold bitsR
      rw [← HM.out, if_neg hbig, HSS.out]
    have o3 : bits .or .u32 ((S : Int) * 16777216) (M : Int) = (R : Int) := by
      have h := or_join (a := S * 16777216) (b := M) (k := 24) (by omega) (by omega) (by omega) (by omega)
      rw [hr]
      simpa using h
    have HR := Lib.hid hr
    clear hr
    go_wp2_with fail
    go_ret
    exact ⟨rfl, HB5.out⟩
end Go.Proofs.YtgkocmljnoambaaDoor
