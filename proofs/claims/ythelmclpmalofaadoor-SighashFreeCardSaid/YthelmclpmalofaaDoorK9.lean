/-
  Texts joined: InRow, Src, Add. Conditions: those of each.
-/
import Derived.Test.YthelmclpmalofaaDoorK8
import Derived.Deep.MidRow
import Derived.Laws.CopyRow
/-
  What an intake is in memory: 8 words, 128 bytes, a size. Conditions: none.
-/
namespace Go.Proofs.YthelmclpmalofaaDoor
open Go.RowKit

section
variable {w w' : World} {g : Nat} {t : TypeId} {vs : List Value}
end

/-- The cells of an intake. -/
def inRow (ws rest : List Int) (n : Nat) : List Value := ws.map (Value.int .u32) ++ (rest.map (Value.int .u8) ++ [.int .u64 (n : Int)])
theorem inRow_length {ws rest : List Int} (n : Nat) (hw : ws.length = 8) (hr : rest.length = 128) : (inRow ws rest n).length = 137 := by simp [inRow, hw, hr]
theorem inRow_word {ws rest : List Int} (n : Nat) {j : Nat} {x : Int} (h : ws[j]? = some x) : (inRow ws rest n)[j]? = some (.int .u32 x) := by
  unfold inRow
  rw [List.getElem?_append_left (by rw [List.length_map]; exact (List.getElem?_eq_some_iff.1 h).1), List.getElem?_map, h]
  rfl
theorem inRow_rest {ws rest : List Int} (n : Nat) (hw : ws.length = 8) {j : Nat} {x : Int} (h : rest[j]? = some x) : (inRow ws rest n)[8 + j]? = some (.int .u8 x) := by
  unfold inRow
  have hj := (List.getElem?_eq_some_iff.1 h).1
  rw [List.getElem?_append_right (by rw [List.length_map]; omega), List.length_map, hw, show 8 + j - 8 = j by omega, List.getElem?_append_left (by rw [List.length_map]; exact hj), List.getElem?_map, h]
  rfl
theorem inRow_size {ws rest : List Int} (n : Nat) (hw : ws.length = 8) (hr : rest.length = 128) : (inRow ws rest n)[136]? = some (.int .u64 (n : Int)) := by
  unfold inRow
  rw [List.getElem?_append_right (by rw [List.length_map]; omega), List.length_map, hw, List.getElem?_append_right (by rw [List.length_map]; omega), List.length_map, hr]
  rfl
/-- Other words. -/
theorem inRow_words {ws us rest : List Int} (n : Nat) (hw : ws.length = 8) (hu : us.length = 8) :
    (inRow ws rest n).take 0 ++ us.map (Value.int .u32) ++ (inRow ws rest n).drop (0 + (us.map (Value.int .u32)).length) = inRow us rest n := by
  unfold inRow
  rw [List.length_map, hu, List.take_zero, List.nil_append, List.drop_left' (by rw [List.length_map]; omega)]
/-- Another size. -/
theorem inRow_sized {ws rest : List Int} (n m : Nat) (hw : ws.length = 8) (hr : rest.length = 128) : (inRow ws rest n).set 136 (.int .u64 (m : Int)) = inRow ws rest m := by
  unfold inRow
  rw [List.set_append_right _ _ (by rw [List.length_map]; omega), List.length_map, hw, List.set_append_right _ _ (by rw [List.length_map]; omega), List.length_map, hr]
  rfl
/-- Other bytes from place k on. -/
theorem inRow_laid {ws rest ns : List Int} (n : Nat) {k : Nat} (hw : ws.length = 8) (hf : k + ns.length ≤ rest.length) :
    (inRow ws rest n).take (8 + k) ++ ns.map (Value.int .u8) ++ (inRow ws rest n).drop (8 + k + (ns.map (Value.int .u8)).length) = inRow ws (laid rest k ns) n := by
  have e1 : (inRow ws rest n).take (8 + k) = ws.map (Value.int .u32) ++ (rest.map (Value.int .u8)).take k := by
    unfold inRow
    have hk : (ws.map (Value.int .u32)).length = 8 := by rw [List.length_map, hw]
    rw [← hk, List.take_append, List.take_of_length_le (by omega), Nat.add_sub_cancel_left, List.take_append_of_le_length (by rw [List.length_map]; omega)]
  have e2 : (inRow ws rest n).drop (8 + k + (ns.map (Value.int .u8)).length) = (rest.map (Value.int .u8)).drop (k + ns.length) ++ [.int .u64 (n : Int)] := by
    unfold inRow
    rw [List.length_map, Nat.add_assoc, ← List.drop_drop, List.drop_left' (by rw [List.length_map, hw]), List.drop_append_of_le_length (by rw [List.length_map]; omega)]
  rw [e1, e2]
  unfold inRow laid
  simp only [List.map_append, List.map_take, List.map_drop, List.append_assoc]
end Go.Proofs.YthelmclpmalofaaDoor

/-
  Bytes that a call takes in, and a copy of them into the middle of a row. Conditions: none.
-/
namespace Go.Proofs.YthelmclpmalofaaDoor
open Go.RowKit

/-- The slice value v reads as these bytes, outside block g. -/
def Src (w : World) (g : Nat) (v : Value) (xs : List UInt8) : Prop :=
  ∃ A c, v = .slice A xs.length c ∧ xs.length ≤ c ∧ c ≤ maxLen ∧ (A = none → xs = [] ∧ c = 0) ∧
    (xs ≠ [] → ∃ b o, A = some ⟨b, o, none⟩ ∧ b < w.heap.size ∧ b ≠ g ∧ ∀ (j : Nat) (u : UInt8), xs[j]? = some u → w.cell? ⟨b, o + j, none⟩ = some (bv u))
section
variable {w w' : World} {g : Nat} {v : Value} {xs : List UInt8}
theorem Src.form (h : Src w g v xs) : ∃ A c, v = .slice A xs.length c ∧ xs.length ≤ c ∧ c ≤ 9223372036854775807 := by
  obtain ⟨A, c, hv, h1, h2, _⟩ := h
  unfold maxLen at h2
  exact ⟨A, c, hv, h1, h2⟩
theorem Src.turns {S : Nat → Prop} (h : Src w g v xs) (ht : Turns S w w') (hS : ∀ k, S k → k = g) : Src w' g v xs := by
  obtain ⟨A, c, hv, h1, h2, h3, h4⟩ := h
  refine ⟨A, c, hv, h1, h2, h3, fun hne => ?_⟩
  obtain ⟨b, o, e, hb, hg, hc⟩ := h4 hne
  exact ⟨b, o, e, Nat.lt_of_lt_of_le hb ht.size, hg, fun j u hu => (ht.cell (p := ⟨b, o + j, none⟩) hb (fun hs => hg (hS _ hs))).trans (hc j u hu)⟩
theorem Src.of_byt {B : Nat} (h : Byt w B v xs) (hB : B ≤ w.heap.size) (hg : B ≤ g) : Src w g v xs := by
  obtain ⟨A, c, hv, h1, h2, h3, h4⟩ := h
  refine ⟨A, c, hv, h1, h2, h3, fun hne => ?_⟩
  obtain ⟨b, o, e, hb, hc⟩ := h4 hne
  exact ⟨b, o, e, by omega, by omega, hc⟩
theorem Src.nil (w : World) (g : Nat) : Src w g (.slice none 0 0) [] := ⟨none, 0, rfl, Nat.le_refl _, by unfold maxLen; omega, fun _ => ⟨rfl, rfl⟩, fun h => absurd rfl h⟩
theorem Src.tail {A : Option Addr} {n c z : Nat} (h : Src w g (.slice A n c) xs) (hz : z ≤ xs.length) : Src w g (.slice (if c = z then A else A.map (fun x => x.add z)) (n - z) (c - z)) (xs.drop z) := by
  obtain ⟨A', c', e, h1, h2, h3, h4⟩ := h
  injection e with e1 e2 e3
  subst e1 e2 e3
  refine ⟨_, _, by rw [List.length_drop], by rw [List.length_drop]; omega, by omega, fun hn => ?_, fun hne => ?_⟩
  · split at hn
    · obtain ⟨rfl, hc0⟩ := h3 hn
      exact ⟨by simp, by omega⟩
    · cases A with
      | none => obtain ⟨rfl, hc0⟩ := h3 rfl; exact ⟨by simp, by omega⟩
      | some a => cases hn
  · obtain ⟨b, o, rfl, hb, hg, hcell⟩ := h4 (by rintro rfl; simp at hne)
    have hzl : z < xs.length := by
      rcases Nat.lt_or_ge z xs.length with h | h
      · exact h
      · exact absurd (List.drop_eq_nil_of_le h) hne
    have hadd : (⟨b, o, none⟩ : Addr).add z = ⟨b, o + z, none⟩ := by
      unfold Addr.add
      split <;> simp_all
    refine ⟨b, o + z, ?_, hb, hg, fun j u hu => ?_⟩
    · rw [if_neg (by omega)]
      simp [hadd]
    · rw [Nat.add_assoc]
      exact hcell _ u (by rw [← hu, List.getElem?_drop])
end

theorem run_tail (A : Option Addr) (n c z : Nat) (hz : z ≤ n) (W : World) :
    (Instr.slice 27 (.slice A n c) (some (.int .i64 (z : Int))) none none).run Tryd.prog W = .ok (.slice (if c = z then A else A.map (fun x => x.add z)) (n - z) (c - z)) W := by
  obtain ⟨i0, hi, hz0, hz1, hz2⟩ := info_parts info_u8
  have he : Tryd.prog.elem 27 = 5 := by kernel_rfl
  have ht : Tryd.prog.underlying 27 = some (.slice (Tryd.prog.elem 27)) := by rw [he]; exact slice_u8
  rw [run_slice_l (ht := ht) (h0 := by omega) (h1 := by omega), he]
  simp [sizeOf, typeInfo, hi, hz1, sliced, go_sem]

/-- A row with some of these bytes from place o on. -/
def over (vs : List Value) (o : Nat) (ys : List UInt8) : List Value := vs.take o ++ ys.map bv ++ vs.drop (o + (ys.map bv).length)
theorem run_copy_src {w : World} (g o dLen dCap : Nat) (t ty : TypeId) (vs : List Value) (hrow : VRow w g t vs) {x : Value} {ys : List UInt8} (hs : Src w g x ys) (n : Nat) (hn : n = min ys.length dLen) (hfit : o + n ≤ vs.length) :
    (Builtin.copy_ #[27, 27] ty #[.slice (some ⟨g, o, none⟩) dLen dCap, x]).run Tryd.prog w = .ok (goInt n) (w.setRow g (over vs o (ys.take n)).toArray) := by
  obtain ⟨i0, hi, hz0, hz1, hz2⟩ := info_parts info_u8
  obtain ⟨A, c, rfl, h1, h2, h3, h4⟩ := hs
  unfold VRow at hrow
  rcases A with _ | ad
  · obtain ⟨rfl, rfl⟩ := h3 rfl
    obtain rfl : n = 0 := by simpa using hn
    rw [List.length_nil, run_copy_nil (P := Tryd.prog) w _ _ ty 5 _ dLen dCap slice_u8 (by rw [hi]; rfl)]
    have e : (over vs o ([].take 0)).toArray = vs.toArray := by unfold over; simp
    rw [e, setRow_self w g _ t _ hrow]
    rfl
  · have hl : (ys.take n).length = n := by rw [List.length_take]; omega
    have h := run_copy_row (P := Tryd.prog) w 27 27 ty 5 g o dLen dCap ad ys.length c vs.toArray t ((ys.take n).map bv) slice_u8 (by rw [hi]; simp [hz1]) hrow (by rw [List.length_map, hl, hn]) (fun j v hv => by
        rw [List.getElem?_map, List.getElem?_take] at hv
        split at hv
        · rename_i hj
          cases hy : ys[j]? with
          | none => rw [hy] at hv; exact absurd hv (by simp)
          | some u =>
            rw [hy] at hv
            obtain rfl : bv u = v := Option.some.inj hv
            obtain ⟨b, o', hA, _, _, hc⟩ := h4 (fun e => by rw [e] at hy; exact absurd hy (by simp))
            obtain rfl : ad = ⟨b, o', none⟩ := Option.some.inj hA
            have hadd : (⟨b, o', none⟩ : Addr).add j = ⟨b, o' + j, none⟩ := by unfold Addr.add; split <;> simp_all
            rw [hadd]
            exact hc j u hy
        · exact absurd hv (by simp)) (by rw [List.length_map, hl]; simpa using hfit) (by intro v hv; obtain ⟨q, _, rfl⟩ := List.mem_map.1 hv; rfl)
    rw [h]
    simp only [List.length_map, hl, over]
theorem op_copy_src {w : World} {op : Oper} {a : Act} {K : Act → World → Prop} {Q : Exit → Act → World → Prop} (s x : Operand)
    (ho : op.op = .call { callee := .builtin .copy, args := #[s, x], argTypes := #[27, 27] })
    (g o dLen dCap : Nat) (t : TypeId) (vs : List Value) (hrow : VRow w g t vs) {u : Value} {ys : List UInt8} (hd : a.eval s = .slice (some ⟨g, o, none⟩) dLen dCap) (hx : a.eval x = u) (hs : Src w g u ys) (n : Nat) (hn : n = min ys.length dLen) (hfit : o + n ≤ vs.length)
    (h : K (a.put op.dst (.int .i64 n)) (w.setRow g (over vs o (ys.take n)).toArray)) : op.wp Tryd.prog a w K Q := by
  have hrun := run_copy_src g o dLen dCap t op.type vs hrow hs n hn hfit
  unfold Oper.wp execOp
  simp only [ho, resolve, invoke, builtin, Sem.run_bind, Sem.run_pure, Result.andThen_ok, List.map_toArray, List.map_cons, List.map_nil, hd, hx, hrun]
  exact h
theorem wpList_copy_src {w : World} {ops : Array Oper} {rest : List Oper} {op : Oper} {a : Act} {Q : Exit → Act → World → Prop} (hgd : op.guard = none) (s x : Operand)
    (ho : op.op = .call { callee := .builtin .copy, args := #[s, x], argTypes := #[27, 27] })
    (g o dLen dCap : Nat) (t : TypeId) (vs : List Value) (hrow : VRow w g t vs) {u : Value} {ys : List UInt8} (hd : a.eval s = .slice (some ⟨g, o, none⟩) dLen dCap) (hx : a.eval x = u) (hs : Src w g u ys) (n : Nat) (hn : n = min ys.length dLen) (hfit : o + n ≤ vs.length)
    (h : wpList Tryd.prog ops Q rest (a.put op.dst (.int .i64 n)) (w.setRow g (over vs o (ys.take n)).toArray)) : wpList Tryd.prog ops Q (op :: rest) a w :=
  wpList_plain hgd fun _ hK => op_copy_src s x ho g o dLen dCap t vs hrow hd hx hs n hn hfit (hK _ _ h)
end Go.Proofs.YthelmclpmalofaaDoor

/-
  What an intake of SHA-256 takes in, walked. Conditions: the sizes stay below 2^60; the piece lies elsewhere; the roots are laid.
-/
namespace Go.Proofs.YthelmclpmalofaaDoor
open Go.RowKit

theorem CubeIs.turns {S : Nat → Prop} {w w' : World} (h : CubeIs w) (ht : Turns S w w') (hS : ¬ S 1) : CubeIs w' :=
  ⟨Nat.lt_of_lt_of_le h.1 ht.size, fun t k hk => (ht.cell (p := ⟨1, t, none⟩) h.1 hS).trans (h.2 t k hk)⟩

/-- Where it stands: the words behind the first q blocks, the piece's rest. -/
def Mid (w0 : World) (g K : Nat) (t : TypeId) (mb : List UInt8) (v : Value) (wx : World) : Prop :=
  ∃ q rest, 64 * q ≤ mb.length ∧ rest.length = 128 ∧ Src wx g v (mb.drop (64 * q)) ∧ VRow wx g t (inRow (blocks256 mb q).list rest mb.length) ∧ VRow wx K 118 (kRow 8) ∧ Turns (· = g) w0 wx
/-- At the end. -/
def Fed (w0 : World) (g : Nat) (t : TypeId) (mb : List UInt8) (e : Ending) (wx : World) : Prop :=
  e = .returned (.tuple #[]) ∧ ∃ ws rest, Took mb ws rest ∧ ws.length = 8 ∧ VRow wx g t (inRow ws rest mb.length) ∧ Turns (· = g) w0 wx

theorem kRow_words {j : Nat} {x : Value} (h : (start256.list.map (Value.int .u32))[j]? = some x) : (kRow 8)[1 + j]? = some x := by
  rw [← h]
  match j with
  | 0 => rfl
  | 1 => rfl
  | 2 => rfl
  | 3 => rfl
  | 4 => rfl
  | 5 => rfl
  | 6 => rfl
  | 7 => rfl
  | j + 8 => exact absurd (List.getElem?_eq_some_iff.1 h).1 (by simp [S8.list])
theorem VRow.setCells_other {g k : Nat} {t : TypeId} {vs : List Value} (hk : k ≠ g) : ∀ (us : List Value) {w : World} {o : Nat}, VRow w k t vs → VRow (w.setCells g o us) k t vs
  | [], _, _, h => h
  | v :: us, w, o, h => VRow.setCells_other hk us (h.turns ((Turns.refl (· = g) w).setCell (p := ⟨g, o, none⟩) (fun _ => rfl) v) hk)
/-- A slice's length. -/
def slen : Value → Nat
  | .slice _ n _ => n
  | _ => 0
theorem words_one (s : S8) : (s.list.map (Value.int .u32)).toArray.all (·.oneCell') = true := by simp [S8.list, Value.oneCell']
theorem S8.list_length (s : S8) : s.list.length = 8 := rfl
set_option maxRecDepth 100000 in
set_option maxHeartbeats 6400000 in
theorem add_any (g : Nat) (t : TypeId) (m b : List UInt8) (ws rest : List Int) (v : Value) (w : World) (ht : Took m ws rest) (hws : ws.length = 8) (hrow : VRow w g t (inRow ws rest m.length)) (hsrc : Src w g v b)
    (hlen : m.length + b.length < 1152921504606846976) (hcube : CubeIs w) (hcg : 1 ≠ g) :
    Calls Tryd.prog 84 #[.pointer (some ⟨g, 0, none⟩), .agg (kRow 8).toArray, v] w (Fed w g t (m ++ b)) := by
  have hg := hrow.lt
  have rK := VRow.new w 118 (kRow 8)
  have tK : Turns (· = g) w (w.alloc (.cells (kRow 8).toArray 118)) := (Turns.refl _ w).alloc _
  have rG := hrow.below ((Below.refl _ w).alloc (Nat.le_refl _) (.cells (kRow 8).toArray 118)) hg
  have sG := hsrc.turns tK (fun _ h => h)
  have cG := hcube.turns tK hcg
  obtain ⟨A, c, rfl, hbc, hcm⟩ := hsrc.form
  obtain ⟨K, hK⟩ : ∃ K, K = w.heap.size := ⟨_, rfl⟩
  have hKg : g < K := by omega
  have HT := Lib.hid ht
  have HWS := Lib.hid hws
  have S0 := Lib.hid hsrc
  have C0 := Lib.hid hcube
  clear hrow hsrc hcube ht hws
  go_enter Tryd.func84, Tryd.ntmps84
  go_upto_region 1 with fail
  obtain ⟨w1, hw1⟩ : ∃ x, x = w.alloc (.cells (kRow 8).toArray 118) := ⟨_, rfl⟩
  rw [← hw1] at rK tK rG sG cG ⊢
  rw [← hK] at rK ⊢
  have hzc := rG.cell (inRow_size m.length HWS.out HT.out.size)
  have RK := Lib.hid rK
  have TK := Lib.hid tK
  have RG := Lib.hid rG
  have SG := Lib.hid sG
  have CG := Lib.hid cG
  have HKE := Lib.hid hK
  clear rK tK rG sG cG hw1 hK
  go_upto_if 12 with fail
  go_cut [4] (fun s4 wx => s4 = .pointer (some ⟨K, 0, none⟩) ∧ VRow wx g t (inRow (blocks256 m (m.length / 64)).list rest m.length) ∧ VRow wx K 118 (kRow 8) ∧ Turns (· = g) w wx)
  case first =>
    by_cases hm : m = []
    · have hm0 : ((m.length : Int) == 0) = true := by rw [hm]; rfl
      have HM := Lib.hid hm
      clear hm
      obtain ⟨L, hL⟩ : ∃ L, L = start256.list.map (Value.int .u32) := ⟨_, rfl⟩
      have hLl : L.length = 8 := by rw [hL]; rfl
      have TH := Lib.hid (show w1.there g 0 L.toArray.size from RG.out.there (by rw [inRow_length _ HWS.out HT.out.size, List.size_toArray, hLl]; decide))
      have HI := Lib.hid (show (Tryd.prog.info? 101).map (·.size) = some L.length by rw [hLl]; exact info_8)
      have HI2 := Lib.hid (show (Tryd.prog.info? 101).map (·.size) = some L.toArray.size by rw [List.size_toArray, hLl]; exact info_8)
      have HO := Lib.hid (show L.toArray.all (·.oneCell') = true by rw [hL]; exact words_one _)
      have HRA := Lib.hid (show w1.rangeAt K 1 L from RK.out.range (by intro j x hx; rw [hL] at hx; exact kRow_words hx))
      have HL := Lib.hid hL
      have HLL := Lib.hid hLl
      clear hL hLl
      go_wp2_with (first
        | (refine wpList_load_mid rfl 101 (.tmp 14) rfl K 1 rfl L _ HRA.out Tryd.underlying101 rfl HI.out ?_)
        | (refine wpList_store_mid rfl 101 (.tmp 17) (.tmp 15) rfl g 0 L.toArray rfl rfl TH.out HI2.out HO.out ?_))
      go_wp2_with fail
      go_meet
      have hq : blocks256 m (m.length / 64) = start256 := by rw [HM.out]; rfl
      have h := VRow.setCells L (o := 0) RG.out (by rw [inRow_length _ HWS.out HT.out.size, HLL.out]; decide)
      have hu := inRow_words (us := start256.list) m.length (rest := rest) HWS.out rfl
      rw [← HL.out] at hu
      rw [hu, ← hq] at h
      exact ⟨rfl, h, VRow.setCells_other (by omega) _ RK.out, Turns.setCells (S := (· = g)) (fun _ => rfl) _ TK.out⟩
    · have hm0 : ((m.length : Int) == 0) = false := by
        have := List.length_pos_iff.2 hm
        simp; omega
      go_wp2_with fail
      go_meet
      exact ⟨rfl, by rw [← HT.out.words hm]; exact RG.out, RK.out, TK.out⟩
  case rest =>
    obtain ⟨rfl, rG, rK, tK⟩ := hcut
    obtain ⟨s, hs⟩ : ∃ s, s = blocks256 m (m.length / 64) := ⟨_, rfl⟩
    rw [← hs] at rG
    obtain ⟨r, hr⟩ : ∃ r, r = m.length % 64 := ⟨_, rfl⟩
    obtain ⟨N, hN⟩ : ∃ N, N = (m ++ b).length := ⟨_, rfl⟩
    have zc := rG.cell (inRow_size m.length (S8.list_length s) HT.out.size)
    have kc : wc.cell? ⟨K, 0, none⟩ = some (.int .i64 64) := rK.cell rfl
    have e1 : (m.length : Int).tmod 64 = (r : Int) := by rw [Int.tmod_eq_emod_of_nonneg (by omega)]; omega
    have e2 : (m.length : Int) % 64 = (r : Int) := by omega
    have e3 : IntKind.i64.wrap (r : Int) = (r : Int) := by rw [IntWalk.i64_in _ (by omega)]
    have hN2 : N = m.length + b.length := by rw [hN, List.length_append]
    have e4 : (m.length : Int) + (b.length : Int) = (N : Int) := by omega
    have rG3 := rG.set 136 (.int .u64 (N : Int))
    rw [inRow_sized _ N (S8.list_length s) HT.out.size] at rG3
    have fz := rG.free 136
    have tK3 := tK.setCell (p := ⟨g, 136, none⟩) (fun _ => rfl) (.int .u64 (N : Int))
    have rK3 := rK.turns ((Turns.refl (· = g) wc).setCell (p := ⟨g, 136, none⟩) (fun _ => rfl) (.int .u64 (N : Int))) (by omega)
    have HS := Lib.hid hs
    have HR := Lib.hid hr
    have HN := Lib.hid hN
    have HN2 := Lib.hid hN2
    have RG3 := Lib.hid rG3
    have RK3 := Lib.hid rK3
    have TK3 := Lib.hid tK3
    clear hs hr hN hN2 rG rK tK rG3 rK3 tK3 RG RK TK hzc
    go_wp2_with fail
    go_quiet (fail)
    go_upto_if 38 with fail
    obtain ⟨w3, hw3⟩ : ∃ x, x = (wc.drewN nq).setCell ⟨g, 136, none⟩ (.int .u64 (N : Int)) := ⟨_, rfl⟩
    rw [← hw3]
    have rG4 : VRow w3 g t (inRow s.list rest N) := by rw [hw3]; exact RG3.out
    have rK4 : VRow w3 K 118 (kRow 8) := by rw [hw3]; exact RK3.out
    have tK4 : Turns (· = g) w w3 := by rw [hw3]; exact ⟨TK3.out.os, TK3.out.tape, TK3.out.output, TK3.out.size, TK3.out.block⟩
    have cu4 : CubeIs w3 := C0.out.turns tK4 hcg
    have sr4 : Src w3 g (.slice A b.length c) b := S0.out.turns tK4 (fun _ h => h)
    clear hw3 kc zc fz RG3 RK3 TK3
    have RG4 := Lib.hid rG4
    have RK4 := Lib.hid rK4
    have TK4 := Lib.hid tK4
    have CU4 := Lib.hid cu4
    have SR4 := Lib.hid sr4
    have hr64 : r < 64 := by have := HR.out; omega
    clear rG4 rK4 tK4 cu4 sr4 e1 e2 e3 e4
    go_cut [2] (fun v2 wx => Mid w g K t (m ++ b) v2 wx)
    case first =>
      by_cases h0 : 0 < r
      · obtain ⟨n, hn⟩ : ∃ n, n = min b.length (64 - r) := ⟨_, rfl⟩
        have kc3 : w3.cell? ⟨K, 0, none⟩ = some (.int .i64 64) := RK4.out.cell rfl
        have i1 : (r : Int) ≤ 64 := by omega
        have i2 : ¬ 128 = r := by omega
        have hil := inRow_length N (S8.list_length s) HT.out.size
        have hover : over (inRow s.list rest N) (8 + r) (b.take n) = inRow s.list (laid rest r (nums (b.take n))) N := by
          have h := inRow_laid (ws := s.list) (rest := rest) (ns := nums (b.take n)) N (k := r) rfl (by rw [nums_length, List.length_take, HT.out.size]; omega)
          rw [nums_bv] at h
          exact h
        have HN3 := Lib.hid hn
        have HIL := Lib.hid hil
        have HOV := Lib.hid hover
        have hnr : n ≤ 64 - r := by omega
        clear hn hil hover
        go_wp2_with fail
        refine wp_region_held_drew (S := (fun w' => w'.cell? ⟨K, 0, none⟩ = some (.int .i64 64))) (by kernel_rfl) ?_ (fun hHeld => ?_)
        · exact kc3
        refine wpAnyH_take (i := 0) (oi := { dst := some 39, op := Go.Op.move (Go.Operand.tmp 0), type := 122, pos := "intake.go:24", after := #[], guard := none }) (v := ?cv0) rfl (by kernel_rfl) (by kernel_rfl) (by kernel_rfl) (fun _ _ _ h => h) (Or.inl ⟨by rfl, ?cy0⟩) (by assumption) ?cr0
        case cy0 => (intro w hSw; (try dsimp only at hSw); go_simp; try (with_reducible rfl))
        case cr0 =>
        try simp only [Act.put, List.setIfInBounds_toArray, List.set_cons_zero, List.set_cons_succ]
        refine wpAnyH_take (i := 1) (oi := { dst := some 40, op := Go.Op.nilCheck (Go.Operand.tmp 39), type := 0, pos := "intake.go:24", after := #[{ on := 0, ground := Go.Ground.data }], guard := none }) (v := ?cv1) rfl (by kernel_rfl) (by kernel_rfl) (by kernel_rfl) (fun _ _ _ h => h) (Or.inl ⟨by rfl, ?cy1⟩) (by assumption) ?cr1
        case cy1 => (intro w hSw; (try dsimp only at hSw); go_simp; try (with_reducible rfl))
        case cr1 =>
        try simp only [Act.put, List.setIfInBounds_toArray, List.set_cons_zero, List.set_cons_succ]
        refine wpAnyH_take (i := 2) (oi := { dst := some 41, op := Go.Op.fieldAddr 110 (Go.Operand.tmp 40) 1, type := 0, pos := "intake.go:24", after := #[{ on := 1, ground := Go.Ground.data }], guard := none }) (v := ?cv2) rfl (by kernel_rfl) (by kernel_rfl) (by kernel_rfl) (fun _ _ _ h => h) (Or.inl ⟨by rfl, ?cy2⟩) (by assumption) ?cr2
        case cy2 => (intro w hSw; (try dsimp only at hSw); go_simp; try (with_reducible rfl))
        case cr2 =>
        try simp only [Act.put, List.setIfInBounds_toArray, List.set_cons_zero, List.set_cons_succ]
        refine wpAnyH_take (i := 3) (oi := { dst := some 42, op := Go.Op.move (Go.Operand.tmp 6), type := 3, pos := "intake.go:24", after := #[], guard := none }) (v := ?cv3) rfl (by kernel_rfl) (by kernel_rfl) (by kernel_rfl) (fun _ _ _ h => h) (Or.inl ⟨by rfl, ?cy3⟩) (by assumption) ?cr3
        case cy3 => (intro w hSw; (try dsimp only at hSw); go_simp; try (with_reducible rfl))
        case cr3 =>
        try simp only [Act.put, List.setIfInBounds_toArray, List.set_cons_zero, List.set_cons_succ]
        refine wpAnyH_take (i := 4) (oi := { dst := some 43, op := Go.Op.fieldAddr 118 (Go.Operand.tmp 4) 0, type := 0, pos := "intake.go:24", after := #[], guard := none }) (v := ?cv4) rfl (by kernel_rfl) (by kernel_rfl) (by kernel_rfl) (fun _ _ _ h => h) (Or.inl ⟨by rfl, ?cy4⟩) (by assumption) ?cr4
        case cy4 => (intro w hSw; (try dsimp only at hSw); go_simp; try (with_reducible rfl))
        case cr4 =>
        try simp only [Act.put, List.setIfInBounds_toArray, List.set_cons_zero, List.set_cons_succ]
        refine wpAnyH_take (i := 5) (oi := { dst := some 44, op := Go.Op.load 3 (Go.Operand.tmp 43), type := 3, pos := "intake.go:24", after := #[{ on := 4, ground := Go.Ground.data }], guard := none }) (v := ?cv5) rfl (by kernel_rfl) (by kernel_rfl) (by kernel_rfl) (fun _ _ _ h => h) (Or.inl ⟨by rfl, ?cy5⟩) (by assumption) ?cr5
        case cy5 => (intro w hSw; (try dsimp only at hSw); go_simp; try (with_reducible rfl))
        case cr5 =>
        try simp only [Act.put, List.setIfInBounds_toArray, List.set_cons_zero, List.set_cons_succ]
        refine wpAnyH_take (i := 6) (oi := { dst := some 45, op := Go.Op.slice 108 (Go.Operand.tmp 41) (some (Go.Operand.tmp 42)) (some (Go.Operand.tmp 44)) none, type := 27, pos := "intake.go:24", after := #[{ on := 2, ground := Go.Ground.data }, { on := 3, ground := Go.Ground.data }, { on := 5, ground := Go.Ground.data }], guard := none }) (v := Value.slice (some ⟨g, 8 + r, none⟩) (64 - r) (128 - r)) rfl (by kernel_rfl) (by kernel_rfl) (by kernel_rfl) (fun _ _ _ h => h) (Or.inl ⟨by rfl, ?cy6⟩) (by assumption) ?cr6
        case cy6 => (intro w hSw; (try dsimp only at hSw); go_simp; try (with_reducible rfl))
        case cr6 =>
        try simp only [Act.put, List.setIfInBounds_toArray, List.set_cons_zero, List.set_cons_succ]
        refine wpAnyH_take (i := 7) (oi := { dst := some 46, op := Go.Op.move (Go.Operand.tmp 2), type := 27, pos := "intake.go:24", after := #[], guard := none }) (v := ?cv7) rfl (by kernel_rfl) (by kernel_rfl) (by kernel_rfl) (fun _ _ _ h => h) (Or.inl ⟨by rfl, ?cy7⟩) (by assumption) ?cr7
        case cy7 => (intro w hSw; (try dsimp only at hSw); go_simp; try (with_reducible rfl))
        case cr7 =>
        try simp only [Act.put, List.setIfInBounds_toArray, List.set_cons_zero, List.set_cons_succ]
        refine wpAnyH_ready (rs := [8]) (by kernel_rfl) (by simp) ?_
        refine AllReadyH.cons (o := { dst := some 47, op := Go.Op.call { callee := Go.Callee.builtin Go.Builtin.copy, args := #[Go.Operand.tmp 45, Go.Operand.tmp 46], argTypes := #[27, 27] }, type := 3, pos := "intake.go:24", after := #[{ on := 6, ground := Go.Ground.data }, { on := 7, ground := Go.Ground.data }], guard := none }) rfl (fun K hK => ?_) (AllReadyH.nil)
        simp only [Region.wanted, if_true]
        refine op_copy_src (.tmp 45) (.tmp 46) rfl g (8 + r) (64 - r) (128 - r) t _ RG4.out rfl rfl SR4.out n HN3.out (by rw [HIL.out]; omega) ?_
        rw [HOV.out]
        refine hK.out _ _ ?_ (fun hHeld => ?_)
        · exact (RK4.out.turns ((Turns.refl (· = g) w3).setRow (fun _ => rfl) _) (by omega)).cell rfl
        clear hK K
        try simp only [Act.put, List.setIfInBounds_toArray, List.set_cons_zero, List.set_cons_succ]
        refine wpAnyH_take (i := 9) (oi := { dst := some 7, op := Go.Op.assign (Go.Operand.tmp 47), type := 3, pos := "intake.go:24", after := #[{ on := 8, ground := Go.Ground.data }, { on := 8, ground := Go.Ground.chain }, { on := 0, ground := Go.Ground.phase }, { on := 1, ground := Go.Ground.phase }, { on := 2, ground := Go.Ground.phase }, { on := 3, ground := Go.Ground.phase }, { on := 4, ground := Go.Ground.phase }, { on := 5, ground := Go.Ground.phase }, { on := 6, ground := Go.Ground.phase }, { on := 7, ground := Go.Ground.phase }, { on := 8, ground := Go.Ground.phase }], guard := none }) (v := ?c_8v9) rfl (by kernel_rfl) (by kernel_rfl) (by kernel_rfl) (fun _ _ _ h => h) (Or.inl ⟨by rfl, ?c_8y9⟩) (by assumption) ?c_8r9
        case c_8y9 => (intro w hSw; (try dsimp only at hSw); go_simp; try (with_reducible rfl))
        case c_8r9 =>
        try simp only [Act.put, List.setIfInBounds_toArray, List.set_cons_zero, List.set_cons_succ]
        refine wpAnyH_done (by kernel_rfl) ?_ _
        obtain ⟨R, hR⟩ : ∃ R, R = laid rest r (nums (b.take n)) := ⟨_, rfl⟩
        have hRl : R.length = 128 := by rw [hR, laid_length (by rw [nums_length, List.length_take, HT.out.size]; omega), HT.out.size]
        rw [← hR]
        obtain ⟨w4, hw4⟩ : ∃ x, x = w3.drew.setRow g (inRow s.list R N).toArray := ⟨_, rfl⟩
        rw [← hw4]
        have rG5 : VRow w4 g t (inRow s.list R N) := by rw [hw4]; exact (show VRow w3.drew g t (inRow s.list rest N) from RG4.out).setRow _
        have tT : Turns (· = g) w3 w4 := by rw [hw4]; exact (Turns.refl (· = g) w3).drew.setRow (fun _ => rfl) _
        have rK5 := RK4.out.turns tT (by omega)
        have tK5 := TK4.out.trans tT (fun _ _ h => h)
        have sr5 := SR4.out.turns tT (fun _ h => h)
        have cu5 := CU4.out.turns tT hcg
        clear hw4 tT RG4 RK4 TK4 SR4 CU4
        have k0 : w4.cell? ⟨K, 0, none⟩ = some (.int .i64 64) := rK5.cell rfl
        by_cases h64 : r + b.length < 64
        · have hnb : n = b.length := by rw [HN3.out]; omega
          have e5 : (r : Int) + (n : Int) < 64 := by omega
          have htk : b.take n = b := by rw [hnb, List.take_length]
          have HR2 := Lib.hid hR
          have HTK := Lib.hid htk
          clear hR htk hnb
          go_wp2_with fail
          refine bodyPost_end (results_none Tryd.results84 _ _ _) rfl ⟨rfl, s.list, R, ?_, rfl, ?_, tK5⟩
          · have hm0 : m ≠ [] := by rintro rfl; have := HR.out; simp at this; omega
            have h := HT.out.some (b := b) hm0 (by rw [← HR.out]; omega)
            rw [HT.out.words hm0, ← HS.out, ← HR.out] at h
            rw [HR2.out, HTK.out]
            exact h
          · rw [← HN.out]; exact rG5
        · have hnb : n = 64 - r := by rw [HN3.out]; omega
          have e5 : (r : Int) + (n : Int) = 64 := by omega
          obtain ⟨bs, hbs⟩ : ∃ bs, bs = m.drop (64 * (m.length / 64)) ++ b.take n := ⟨_, rfl⟩
          have hbl : bs.length = 64 := by rw [hbs, List.length_append, List.length_drop, List.length_take]; have := HR.out; omega
          have hR64 : R.take 64 = nums bs := by
            have h := laid_take (r := rest) (k := r) (ns := nums (b.take n)) (by rw [nums_length, List.length_take, HT.out.size]; omega)
            rw [nums_length, List.length_take, ← hR, show r + min n b.length = 64 by omega] at h
            rw [h, hbs, nums_append, HR.out, HT.out.low]
          have hcells : ∀ (j : Nat) (u : UInt8), bs[j]? = some u → w4.cell? ⟨g, 8 + j, none⟩ = some (bv u) := fun j u hu => by
            refine rG5.cell (inRow_rest N (S8.list_length s) (x := (u.toNat : Int)) ?_)
            have hj : j < 64 := by rw [← hbl]; exact (List.getElem?_eq_some_iff.1 hu).1
            have e : R[j]? = (R.take 64)[j]? := by rw [List.getElem?_take, if_pos hj]
            rw [e, hR64]
            unfold nums
            rw [List.getElem?_map, hu]
            rfl
          have hsok : s.Ok := by rw [HS.out]; exact blocks256_ok _ _
          have STEP := Lib.hid (step256_any g 8 128 s bs w4.drew hsok hbl (by omega) (by omega) rG5.lt hcells cu5)
          obtain ⟨L, hL⟩ : ∃ L, L = s.list.map (Value.int .u32) := ⟨_, rfl⟩
          obtain ⟨M, hM⟩ : ∃ M, M = (comp256 s bs).list.map (Value.int .u32) := ⟨_, rfl⟩
          rw [← hL, ← hM] at STEP
          have hLl : L.length = 8 := by rw [hL]; rfl
          have hMl : M.length = 8 := by rw [hM]; rfl
          have HI := Lib.hid (show (Tryd.prog.info? 101).map (·.size) = some L.length by rw [hLl]; exact info_8)
          have HI2 := Lib.hid (show (Tryd.prog.info? 101).map (·.size) = some M.toArray.size by rw [List.size_toArray, hMl]; exact info_8)
          have HO := Lib.hid (show M.toArray.all (·.oneCell') = true by rw [hM]; exact words_one _)
          have HRA := Lib.hid (show w4.drew.rangeAt g 0 L from VRow.range (w := w4) rG5 (by
            intro j x hx
            rw [hL, List.getElem?_map] at hx
            cases hy : s.list[j]? with
            | none => rw [hy] at hx; exact absurd hx (by simp)
            | some y =>
              rw [hy] at hx
              obtain rfl : Value.int .u32 y = x := Option.some.inj hx
              rw [Nat.zero_add]
              exact inRow_word N hy))
          have k9 : w4.cell? ⟨K, 9, none⟩ = some (.func (.func 88) #[] #[]) := rK5.cell rfl
          have RG5 := Lib.hid rG5
          have RK5 := Lib.hid rK5
          have TK5 := Lib.hid tK5
          have SR5 := Lib.hid sr5
          have HBS := Lib.hid hbs
          have HBL := Lib.hid hbl
          have HML := Lib.hid hMl
          have HMM := Lib.hid hM
          have HNB := Lib.hid hnb
          have HRL := Lib.hid hRl
          clear rG5 rK5 tK5 sr5 cu5 hbs hbl hR hR64 hcells hsok hL hM hLl hMl hnb hRl
          go_wp2_with fail
          refine wp_region_held_drew (S := (fun w' => w'.cell? ⟨K, 0, none⟩ = some (.int .i64 64) ∧ w'.cell? ⟨K, 9, none⟩ = some (.func (.func 88) #[] #[]))) (by kernel_rfl) ?_ (fun hHeld => ?_)
          · exact ⟨k0, k9⟩
          refine wpAnyH_take (i := 0) (oi := { dst := some 54, op := Go.Op.move (Go.Operand.tmp 0), type := 122, pos := "intake.go:28", after := #[], guard := none }) (v := ?dv0) rfl (by kernel_rfl) (by kernel_rfl) (by kernel_rfl) (fun _ _ _ h => h) (Or.inl ⟨by rfl, ?dy0⟩) (by assumption) ?dr0
          case dy0 => (intro w hSw; (try dsimp only at hSw); go_simp; try (with_reducible rfl))
          case dr0 =>
          try simp only [Act.put, List.setIfInBounds_toArray, List.set_cons_zero, List.set_cons_succ]
          refine wpAnyH_take (i := 1) (oi := { dst := some 55, op := Go.Op.fieldAddr 118 (Go.Operand.tmp 4) 2, type := 0, pos := "intake.go:28", after := #[], guard := none }) (v := ?dv1) rfl (by kernel_rfl) (by kernel_rfl) (by kernel_rfl) (fun _ _ _ h => h) (Or.inl ⟨by rfl, ?dy1⟩) (by assumption) ?dr1
          case dy1 => (intro w hSw; (try dsimp only at hSw); go_simp; try (with_reducible rfl))
          case dr1 =>
          try simp only [Act.put, List.setIfInBounds_toArray, List.set_cons_zero, List.set_cons_succ]
          refine wpAnyH_take (i := 2) (oi := { dst := some 56, op := Go.Op.load 116 (Go.Operand.tmp 55), type := 116, pos := "intake.go:28", after := #[{ on := 1, ground := Go.Ground.data }], guard := none }) (v := ?dv2) rfl (by kernel_rfl) (by kernel_rfl) (by kernel_rfl) (fun _ _ _ h => h) (Or.inl ⟨by rfl, ?dy2⟩) (by assumption) ?dr2
          case dy2 => (intro w hSw; (try dsimp only at hSw); go_simp; try (with_reducible rfl))
          case dr2 =>
          try simp only [Act.put, List.setIfInBounds_toArray, List.set_cons_zero, List.set_cons_succ]
          refine wpAnyH_take (i := 3) (oi := { dst := some 57, op := Go.Op.move (Go.Operand.tmp 0), type := 122, pos := "intake.go:28", after := #[], guard := none }) (v := ?dv3) rfl (by kernel_rfl) (by kernel_rfl) (by kernel_rfl) (fun _ _ _ h => h) (Or.inl ⟨by rfl, ?dy3⟩) (by assumption) ?dr3
          case dy3 => (intro w hSw; (try dsimp only at hSw); go_simp; try (with_reducible rfl))
          case dr3 =>
          try simp only [Act.put, List.setIfInBounds_toArray, List.set_cons_zero, List.set_cons_succ]
          refine wpAnyH_take (i := 4) (oi := { dst := some 58, op := Go.Op.nilCheck (Go.Operand.tmp 57), type := 0, pos := "intake.go:28", after := #[{ on := 3, ground := Go.Ground.data }], guard := none }) (v := ?dv4) rfl (by kernel_rfl) (by kernel_rfl) (by kernel_rfl) (fun _ _ _ h => h) (Or.inl ⟨by rfl, ?dy4⟩) (by assumption) ?dr4
          case dy4 => (intro w hSw; (try dsimp only at hSw); go_simp; try (with_reducible rfl))
          case dr4 =>
          try simp only [Act.put, List.setIfInBounds_toArray, List.set_cons_zero, List.set_cons_succ]
          refine wpAnyH_take (i := 5) (oi := { dst := some 59, op := Go.Op.fieldAddr 110 (Go.Operand.tmp 58) 0, type := 0, pos := "intake.go:28", after := #[{ on := 4, ground := Go.Ground.data }], guard := none }) (v := ?dv5) rfl (by kernel_rfl) (by kernel_rfl) (by kernel_rfl) (fun _ _ _ h => h) (Or.inl ⟨by rfl, ?dy5⟩) (by assumption) ?dr5
          case dy5 => (intro w hSw; (try dsimp only at hSw); go_simp; try (with_reducible rfl))
          case dr5 =>
          try simp only [Act.put, List.setIfInBounds_toArray, List.set_cons_zero, List.set_cons_succ]
          refine wpAnyH_take (i := 7) (oi := { dst := some 61, op := Go.Op.move (Go.Operand.tmp 0), type := 122, pos := "intake.go:28", after := #[], guard := none }) (v := ?dv7) rfl (by kernel_rfl) (by kernel_rfl) (by kernel_rfl) (fun _ _ _ h => h) (Or.inl ⟨by rfl, ?dy7⟩) (by assumption) ?dr7
          case dy7 => (intro w hSw; (try dsimp only at hSw); go_simp; try (with_reducible rfl))
          case dr7 =>
          try simp only [Act.put, List.setIfInBounds_toArray, List.set_cons_zero, List.set_cons_succ]
          refine wpAnyH_take (i := 8) (oi := { dst := some 62, op := Go.Op.nilCheck (Go.Operand.tmp 61), type := 0, pos := "intake.go:28", after := #[{ on := 7, ground := Go.Ground.data }], guard := none }) (v := ?dv8) rfl (by kernel_rfl) (by kernel_rfl) (by kernel_rfl) (fun _ _ _ h => h) (Or.inl ⟨by rfl, ?dy8⟩) (by assumption) ?dr8
          case dy8 => (intro w hSw; (try dsimp only at hSw); go_simp; try (with_reducible rfl))
          case dr8 =>
          try simp only [Act.put, List.setIfInBounds_toArray, List.set_cons_zero, List.set_cons_succ]
          refine wpAnyH_take (i := 9) (oi := { dst := some 63, op := Go.Op.fieldAddr 110 (Go.Operand.tmp 62) 1, type := 0, pos := "intake.go:28", after := #[{ on := 8, ground := Go.Ground.data }], guard := none }) (v := ?dv9) rfl (by kernel_rfl) (by kernel_rfl) (by kernel_rfl) (fun _ _ _ h => h) (Or.inl ⟨by rfl, ?dy9⟩) (by assumption) ?dr9
          case dy9 => (intro w hSw; (try dsimp only at hSw); go_simp; try (with_reducible rfl))
          case dr9 =>
          try simp only [Act.put, List.setIfInBounds_toArray, List.set_cons_zero, List.set_cons_succ]
          refine wpAnyH_take (i := 10) (oi := { dst := some 64, op := Go.Op.fieldAddr 118 (Go.Operand.tmp 4) 0, type := 0, pos := "intake.go:28", after := #[], guard := none }) (v := ?dv10) rfl (by kernel_rfl) (by kernel_rfl) (by kernel_rfl) (fun _ _ _ h => h) (Or.inl ⟨by rfl, ?dy10⟩) (by assumption) ?dr10
          case dy10 => (intro w hSw; (try dsimp only at hSw); go_simp; try (with_reducible rfl))
          case dr10 =>
          try simp only [Act.put, List.setIfInBounds_toArray, List.set_cons_zero, List.set_cons_succ]
          refine wpAnyH_take (i := 11) (oi := { dst := some 65, op := Go.Op.load 3 (Go.Operand.tmp 64), type := 3, pos := "intake.go:28", after := #[{ on := 10, ground := Go.Ground.data }], guard := none }) (v := ?dv11) rfl (by kernel_rfl) (by kernel_rfl) (by kernel_rfl) (fun _ _ _ h => h) (Or.inl ⟨by rfl, ?dy11⟩) (by assumption) ?dr11
          case dy11 => (intro w hSw; (try dsimp only at hSw); go_simp; try (with_reducible rfl))
          case dr11 =>
          try simp only [Act.put, List.setIfInBounds_toArray, List.set_cons_zero, List.set_cons_succ]
          refine wpAnyH_take (i := 12) (oi := { dst := some 66, op := Go.Op.slice 108 (Go.Operand.tmp 63) none (some (Go.Operand.tmp 65)) none, type := 27, pos := "intake.go:28", after := #[{ on := 9, ground := Go.Ground.data }, { on := 11, ground := Go.Ground.data }], guard := none }) (v := Value.slice (some ⟨g, 8, none⟩) 64 128) rfl (by kernel_rfl) (by kernel_rfl) (by kernel_rfl) (fun _ _ _ h => h) (Or.inl ⟨by rfl, ?dy12⟩) (by assumption) ?dr12
          case dy12 => (intro w hSw; (try dsimp only at hSw); go_simp; try (with_reducible rfl))
          case dr12 =>
          try simp only [Act.put, List.setIfInBounds_toArray, List.set_cons_zero, List.set_cons_succ]
          refine wpAnyH_ready (rs := [6]) (by kernel_rfl) (by simp) ?_
          refine AllReadyH.cons (o := { dst := some 60, op := Go.Op.load 101 (Go.Operand.tmp 59), type := 101, pos := "intake.go:28", after := #[{ on := 5, ground := Go.Ground.data }], guard := none }) rfl (fun K hK => ?_) (AllReadyH.nil)
          simp only [Region.wanted, if_true]
          refine wp_load_mid 101 (.tmp 59) rfl g 0 rfl L _ HRA.out Tryd.underlying101 rfl HI.out ?_
          refine hK.out _ _ ?_ (fun hHeld => ?_)
          · exact hHeld
          clear hK K
          try simp only [Act.put, List.setIfInBounds_toArray, List.set_cons_zero, List.set_cons_succ]
          refine wpAnyH_ready (rs := [13]) (by kernel_rfl) (by simp) ?_
          refine AllReadyH.cons (o := { dst := some 67, op := Go.Op.call { callee := Go.Callee.value (Go.Operand.tmp 56), args := #[Go.Operand.tmp 60, Go.Operand.tmp 66], argTypes := #[101, 27] }, type := 101, pos := "intake.go:28", after := #[{ on := 2, ground := Go.Ground.data }, { on := 6, ground := Go.Ground.data }, { on := 12, ground := Go.Ground.data }], guard := none }) rfl (fun K hK => ?_) (AllReadyH.nil)
          go_simp
          refine (STEP.out).mono ?_
          rintro e w5 ⟨rfl, hb5⟩
          go_simp
          have B5 := Lib.hid (show Below w4.heap.size w4 w5 from ⟨hb5.os, hb5.tape, hb5.output, hb5.size, hb5.block⟩)
          have rG6 := RG5.out.below B5.out RG5.out.lt
          have th6 := Lib.hid (show w5.there g 0 M.toArray.size from rG6.there (by rw [inRow_length _ (S8.list_length s) HRL.out, List.size_toArray, HML.out]; decide))
          have RG6 := Lib.hid rG6
          clear hb5 rG6
          refine hK.out _ _ ?_ (fun hHeld => ?_)
          · exact ⟨(RK5.out.below B5.out RK5.out.lt).cell rfl, (RK5.out.below B5.out RK5.out.lt).cell rfl⟩
          clear hK K
          try simp only [Act.put, List.setIfInBounds_toArray, List.set_cons_zero, List.set_cons_succ]
          refine wpAnyH_take (i := 14) (oi := { dst := some 68, op := Go.Op.nilCheck (Go.Operand.tmp 54), type := 0, pos := "intake.go:28", after := #[{ on := 0, ground := Go.Ground.data }, { on := 0, ground := Go.Ground.phase }, { on := 1, ground := Go.Ground.phase }, { on := 2, ground := Go.Ground.phase }, { on := 3, ground := Go.Ground.phase }, { on := 4, ground := Go.Ground.phase }, { on := 5, ground := Go.Ground.phase }, { on := 6, ground := Go.Ground.phase }, { on := 7, ground := Go.Ground.phase }, { on := 8, ground := Go.Ground.phase }, { on := 9, ground := Go.Ground.phase }, { on := 10, ground := Go.Ground.phase }, { on := 11, ground := Go.Ground.phase }, { on := 12, ground := Go.Ground.phase }, { on := 13, ground := Go.Ground.phase }], guard := none }) (v := ?d_6_13v14) rfl (by kernel_rfl) (by kernel_rfl) (by kernel_rfl) (fun _ _ _ h => h) (Or.inl ⟨by rfl, ?d_6_13y14⟩) (by assumption) ?d_6_13r14
          case d_6_13y14 => (intro w hSw; (try dsimp only at hSw); go_simp; try (with_reducible rfl))
          case d_6_13r14 =>
          try simp only [Act.put, List.setIfInBounds_toArray, List.set_cons_zero, List.set_cons_succ]
          refine wpAnyH_take (i := 15) (oi := { dst := some 69, op := Go.Op.fieldAddr 110 (Go.Operand.tmp 68) 0, type := 0, pos := "intake.go:28", after := #[{ on := 14, ground := Go.Ground.data }, { on := 0, ground := Go.Ground.phase }, { on := 1, ground := Go.Ground.phase }, { on := 2, ground := Go.Ground.phase }, { on := 3, ground := Go.Ground.phase }, { on := 4, ground := Go.Ground.phase }, { on := 5, ground := Go.Ground.phase }, { on := 6, ground := Go.Ground.phase }, { on := 7, ground := Go.Ground.phase }, { on := 8, ground := Go.Ground.phase }, { on := 9, ground := Go.Ground.phase }, { on := 10, ground := Go.Ground.phase }, { on := 11, ground := Go.Ground.phase }, { on := 12, ground := Go.Ground.phase }, { on := 13, ground := Go.Ground.phase }], guard := none }) (v := ?d_6_13v15) rfl (by kernel_rfl) (by kernel_rfl) (by kernel_rfl) (fun _ _ _ h => h) (Or.inl ⟨by rfl, ?d_6_13y15⟩) (by assumption) ?d_6_13r15
          case d_6_13y15 => (intro w hSw; (try dsimp only at hSw); go_simp; try (with_reducible rfl))
          case d_6_13r15 =>
          try simp only [Act.put, List.setIfInBounds_toArray, List.set_cons_zero, List.set_cons_succ]
          refine wpAnyH_ready (rs := [16]) (by kernel_rfl) (by simp) ?_
          refine AllReadyH.cons (o := { dst := none, op := Go.Op.store 101 (Go.Operand.tmp 69) (Go.Operand.tmp 67), type := 0, pos := "intake.go:28", after := #[{ on := 15, ground := Go.Ground.data }, { on := 13, ground := Go.Ground.data }, { on := 13, ground := Go.Ground.chain }, { on := 0, ground := Go.Ground.phase }, { on := 1, ground := Go.Ground.phase }, { on := 2, ground := Go.Ground.phase }, { on := 3, ground := Go.Ground.phase }, { on := 4, ground := Go.Ground.phase }, { on := 5, ground := Go.Ground.phase }, { on := 6, ground := Go.Ground.phase }, { on := 7, ground := Go.Ground.phase }, { on := 8, ground := Go.Ground.phase }, { on := 9, ground := Go.Ground.phase }, { on := 10, ground := Go.Ground.phase }, { on := 11, ground := Go.Ground.phase }, { on := 12, ground := Go.Ground.phase }, { on := 13, ground := Go.Ground.phase }], guard := none }) rfl (fun K hK => ?_) (AllReadyH.nil)
          simp only [Region.wanted, if_true]
          refine wp_store_mid 101 (.tmp 69) (.tmp 67) rfl g 0 M.toArray rfl rfl th6.out HI2.out HO.out ?_
          refine hK.out _ _ ?_ (fun hHeld => ?_)
          · exact ⟨(VRow.setCells_other (by omega) _ (RK5.out.below B5.out RK5.out.lt)).cell rfl, (VRow.setCells_other (by omega) _ (RK5.out.below B5.out RK5.out.lt)).cell rfl⟩
          clear hK K
          try simp only [Act.put]
          refine wpAnyH_done (by kernel_rfl) ?_ _
          have tT6 : Turns (· = g) w4 (w5.setCells g 0 M) := Turns.setCells (S := (· = g)) (fun _ => rfl) _ (Turns.of_below (S := (· = g)) B5.out)
          have rG7 := VRow.setCells M (o := 0) RG6.out (by rw [inRow_length _ (S8.list_length s) HRL.out, HML.out]; decide)
          have hu := inRow_words (us := (comp256 s bs).list) N (rest := R) (S8.list_length s) rfl
          rw [← HMM.out] at hu
          rw [hu] at rG7
          obtain ⟨w6, hw6⟩ : ∃ x, x = w5.setCells g 0 M := ⟨_, rfl⟩
          rw [← hw6] at tT6 rG7 ⊢
          have rK7 := RK5.out.turns tT6 (by omega)
          have tK7 := TK5.out.trans tT6 (fun _ _ h => h)
          have sr7 := SR5.out.turns tT6 (fun _ h => h)
          have hsl := run_tail A b.length c n (by have := HN3.out; omega)
          have sr8 := sr7.tail (z := n) (by have := HN3.out; omega)
          have hmid : Mid w g K t (m ++ b) (.slice (if c = n then A else A.map (fun x => x.add n)) (b.length - n) (c - n)) w6 := by
            have hnm : n + m.length % 64 = 64 := by have := HNB.out; have := HR.out; omega
            refine ⟨m.length / 64 + 1, R, ?_, HRL.out, ?_, ?_, rK7, tK7⟩
            · have := HN3.out; rw [List.length_append]; omega
            · rw [join_rest hnm]; exact sr8
            · rw [blocks256_next hnm, ← HBS.out, ← HS.out, ← HN.out]; exact rG7
          have HMID := Lib.hid hmid
          obtain ⟨A2, hA2⟩ : ∃ A2, A2 = if c = n then A else A.map (fun x => x.add n) := ⟨_, rfl⟩
          rw [← hA2] at hsl HMID
          clear hmid hw6 tT6 rG7 hu rK7 tK7 sr7 sr8 hA2 hHeld RG6 B5 th6
          go_wp2_with fail
          go_meet
          exact HMID.out
      · obtain rfl : r = 0 := by omega
        go_wp2_with fail
        go_meet
        have hm64 : 64 * (m.length / 64) = m.length := by have := HR.out; omega
        refine ⟨m.length / 64, rest, by rw [List.length_append]; omega, HT.out.size, ?_, ?_, RK4.out, TK4.out⟩
        · rw [hm64, List.drop_left]; exact SR4.out
        · rw [blocks256_same, ← HS.out, ← HN.out]; exact RG4.out
    case rest =>
      have HMID := Lib.hid hcut
      clear hcut RG4 RK4 TK4 CU4 SR4 HS HR hr64
      go_wp2_with fail
      go_loopw [2] (fun v wr => Mid w g K t (m ++ b) v wr) (fun v _ => slen v)
      case atStart => exact HMID.out
      case round =>
        obtain ⟨q, rest2, hq, hrl, sr, rG, rK, tK⟩ := hrel
        obtain ⟨bs, hbs⟩ : ∃ bs, bs = (m ++ b).drop (64 * q) := ⟨_, rfl⟩
        rw [← hbs] at sr
        obtain ⟨A3, c3, rfl, hbc3, hcm3⟩ := sr.form
        have hbl : bs.length = N - 64 * q := by rw [hbs, List.length_drop, ← HN.out]
        obtain ⟨s2, hs2⟩ : ∃ s2, s2 = blocks256 (m ++ b) q := ⟨_, rfl⟩
        rw [← hs2, ← HN.out] at rG
        have hNq : 64 * q ≤ N := by rw [HN.out]; exact hq
        have k0 : wr.cell? ⟨K, 0, none⟩ = some (.int .i64 64) := rK.cell rfl
        have cu : CubeIs wr := C0.out.turns tK hcg
        have HQ := Lib.hid hq
        have HBS := Lib.hid hbs
        have HBL := Lib.hid hbl
        have HS2 := Lib.hid hs2
        have HRL := Lib.hid hrl
        clear hq hbs hbl hs2 hrl
        by_cases h64 : 64 ≤ bs.length
        · obtain ⟨bb, o, rfl, hbb, hbg, hcell⟩ : ∃ bb o, A3 = some ⟨bb, o, none⟩ ∧ bb < wr.heap.size ∧ bb ≠ g ∧ ∀ (j : Nat) (u : UInt8), bs[j]? = some u → wr.cell? ⟨bb, o + j, none⟩ = some (bv u) := by
            obtain ⟨A', c', e, _, _, _, h⟩ := sr
            obtain ⟨bb, o, e2, h2⟩ := h (by intro h0; rw [h0] at h64; simp at h64)
            injection e with e3
            exact ⟨bb, o, e3.trans e2, h2⟩
          have i1 : (64 : Int) ≤ (bs.length : Int) := by omega
          have i2 : (64 : Int) ≤ (c3 : Int) := by omega
          obtain ⟨ys, hys⟩ : ∃ ys, ys = bs.take 64 := ⟨_, rfl⟩
          have hyl : ys.length = 64 := by rw [hys, List.length_take]; omega
          have hsok : s2.Ok := by rw [HS2.out]; exact blocks256_ok _ _
          have STEP := Lib.hid (step256_any bb o c3 s2 ys wr.drew hsok hyl (by omega) hcm3 hbb (fun j u hu => hcell j u (by rw [hys, List.getElem?_take] at hu; split at hu; exact hu; exact absurd hu (by simp))) cu)
          obtain ⟨L, hL⟩ : ∃ L, L = s2.list.map (Value.int .u32) := ⟨_, rfl⟩
          obtain ⟨M, hM⟩ : ∃ M, M = (comp256 s2 ys).list.map (Value.int .u32) := ⟨_, rfl⟩
          rw [← hL, ← hM] at STEP
          have hLl : L.length = 8 := by rw [hL]; rfl
          have hMl : M.length = 8 := by rw [hM]; rfl
          have HI := Lib.hid (show (Tryd.prog.info? 101).map (·.size) = some L.length by rw [hLl]; exact info_8)
          have HI2 := Lib.hid (show (Tryd.prog.info? 101).map (·.size) = some M.toArray.size by rw [List.size_toArray, hMl]; exact info_8)
          have HO := Lib.hid (show M.toArray.all (·.oneCell') = true by rw [hM]; exact words_one _)
          have HRA := Lib.hid (show wr.drew.rangeAt g 0 L from VRow.range (w := wr) rG (by
            intro j x hx
            rw [hL, List.getElem?_map] at hx
            cases hy : s2.list[j]? with
            | none => rw [hy] at hx; exact absurd hx (by simp)
            | some y =>
              rw [hy] at hx
              obtain rfl : Value.int .u32 y = x := Option.some.inj hx
              rw [Nat.zero_add]
              exact inRow_word N hy))
          have k9 : wr.cell? ⟨K, 9, none⟩ = some (.func (.func 88) #[] #[]) := rK.cell rfl
          have RG := Lib.hid rG
          have RK := Lib.hid rK
          have TK := Lib.hid tK
          have SR := Lib.hid sr
          have HYS := Lib.hid hys
          have HML := Lib.hid hMl
          have HMM := Lib.hid hM
          clear rG rK tK sr cu hys hyl hsok hL hM hLl hMl hcell
          go_wp2_with fail
          refine wp_region_held_drew (S := (fun w' => w'.cell? ⟨K, 0, none⟩ = some (.int .i64 64) ∧ w'.cell? ⟨K, 9, none⟩ = some (.func (.func 88) #[] #[]))) (by kernel_rfl) ?_ (fun hHeld => ?_)
          · exact ⟨k0, k9⟩
          refine wpAnyH_take (i := 0) (oi := { dst := some 78, op := Go.Op.move (Go.Operand.tmp 0), type := 122, pos := "intake.go:32", after := #[], guard := none }) (v := ?ev0) rfl (by kernel_rfl) (by kernel_rfl) (by kernel_rfl) (fun _ _ _ h => h) (Or.inl ⟨by rfl, ?ey0⟩) (by assumption) ?er0
          case ey0 => (intro w hSw; (try dsimp only at hSw); go_simp; try (with_reducible rfl))
          case er0 =>
          try simp only [Act.put, List.setIfInBounds_toArray, List.set_cons_zero, List.set_cons_succ]
          refine wpAnyH_take (i := 1) (oi := { dst := some 79, op := Go.Op.fieldAddr 118 (Go.Operand.tmp 4) 2, type := 0, pos := "intake.go:32", after := #[], guard := none }) (v := ?ev1) rfl (by kernel_rfl) (by kernel_rfl) (by kernel_rfl) (fun _ _ _ h => h) (Or.inl ⟨by rfl, ?ey1⟩) (by assumption) ?er1
          case ey1 => (intro w hSw; (try dsimp only at hSw); go_simp; try (with_reducible rfl))
          case er1 =>
          try simp only [Act.put, List.setIfInBounds_toArray, List.set_cons_zero, List.set_cons_succ]
          refine wpAnyH_take (i := 2) (oi := { dst := some 80, op := Go.Op.load 116 (Go.Operand.tmp 79), type := 116, pos := "intake.go:32", after := #[{ on := 1, ground := Go.Ground.data }], guard := none }) (v := ?ev2) rfl (by kernel_rfl) (by kernel_rfl) (by kernel_rfl) (fun _ _ _ h => h) (Or.inl ⟨by rfl, ?ey2⟩) (by assumption) ?er2
          case ey2 => (intro w hSw; (try dsimp only at hSw); go_simp; try (with_reducible rfl))
          case er2 =>
          try simp only [Act.put, List.setIfInBounds_toArray, List.set_cons_zero, List.set_cons_succ]
          refine wpAnyH_take (i := 3) (oi := { dst := some 81, op := Go.Op.move (Go.Operand.tmp 0), type := 122, pos := "intake.go:32", after := #[], guard := none }) (v := ?ev3) rfl (by kernel_rfl) (by kernel_rfl) (by kernel_rfl) (fun _ _ _ h => h) (Or.inl ⟨by rfl, ?ey3⟩) (by assumption) ?er3
          case ey3 => (intro w hSw; (try dsimp only at hSw); go_simp; try (with_reducible rfl))
          case er3 =>
          try simp only [Act.put, List.setIfInBounds_toArray, List.set_cons_zero, List.set_cons_succ]
          refine wpAnyH_take (i := 4) (oi := { dst := some 82, op := Go.Op.nilCheck (Go.Operand.tmp 81), type := 0, pos := "intake.go:32", after := #[{ on := 3, ground := Go.Ground.data }], guard := none }) (v := ?ev4) rfl (by kernel_rfl) (by kernel_rfl) (by kernel_rfl) (fun _ _ _ h => h) (Or.inl ⟨by rfl, ?ey4⟩) (by assumption) ?er4
          case ey4 => (intro w hSw; (try dsimp only at hSw); go_simp; try (with_reducible rfl))
          case er4 =>
          try simp only [Act.put, List.setIfInBounds_toArray, List.set_cons_zero, List.set_cons_succ]
          refine wpAnyH_take (i := 5) (oi := { dst := some 83, op := Go.Op.fieldAddr 110 (Go.Operand.tmp 82) 0, type := 0, pos := "intake.go:32", after := #[{ on := 4, ground := Go.Ground.data }], guard := none }) (v := ?ev5) rfl (by kernel_rfl) (by kernel_rfl) (by kernel_rfl) (fun _ _ _ h => h) (Or.inl ⟨by rfl, ?ey5⟩) (by assumption) ?er5
          case ey5 => (intro w hSw; (try dsimp only at hSw); go_simp; try (with_reducible rfl))
          case er5 =>
          try simp only [Act.put, List.setIfInBounds_toArray, List.set_cons_zero, List.set_cons_succ]
          refine wpAnyH_take (i := 7) (oi := { dst := some 85, op := Go.Op.move (Go.Operand.tmp 2), type := 27, pos := "intake.go:32", after := #[], guard := none }) (v := ?ev7) rfl (by kernel_rfl) (by kernel_rfl) (by kernel_rfl) (fun _ _ _ h => h) (Or.inl ⟨by rfl, ?ey7⟩) (by assumption) ?er7
          case ey7 => (intro w hSw; (try dsimp only at hSw); go_simp; try (with_reducible rfl))
          case er7 =>
          try simp only [Act.put, List.setIfInBounds_toArray, List.set_cons_zero, List.set_cons_succ]
          refine wpAnyH_take (i := 8) (oi := { dst := some 86, op := Go.Op.fieldAddr 118 (Go.Operand.tmp 4) 0, type := 0, pos := "intake.go:32", after := #[], guard := none }) (v := ?ev8) rfl (by kernel_rfl) (by kernel_rfl) (by kernel_rfl) (fun _ _ _ h => h) (Or.inl ⟨by rfl, ?ey8⟩) (by assumption) ?er8
          case ey8 => (intro w hSw; (try dsimp only at hSw); go_simp; try (with_reducible rfl))
          case er8 =>
          try simp only [Act.put, List.setIfInBounds_toArray, List.set_cons_zero, List.set_cons_succ]
          refine wpAnyH_take (i := 9) (oi := { dst := some 87, op := Go.Op.load 3 (Go.Operand.tmp 86), type := 3, pos := "intake.go:32", after := #[{ on := 8, ground := Go.Ground.data }], guard := none }) (v := ?ev9) rfl (by kernel_rfl) (by kernel_rfl) (by kernel_rfl) (fun _ _ _ h => h) (Or.inl ⟨by rfl, ?ey9⟩) (by assumption) ?er9
          case ey9 => (intro w hSw; (try dsimp only at hSw); go_simp; try (with_reducible rfl))
          case er9 =>
          try simp only [Act.put, List.setIfInBounds_toArray, List.set_cons_zero, List.set_cons_succ]
          refine wpAnyH_take (i := 10) (oi := { dst := some 88, op := Go.Op.slice 27 (Go.Operand.tmp 85) none (some (Go.Operand.tmp 87)) none, type := 27, pos := "intake.go:32", after := #[{ on := 7, ground := Go.Ground.data }, { on := 9, ground := Go.Ground.data }], guard := none }) (v := Value.slice (some ⟨bb, o, none⟩) 64 c3) rfl (by kernel_rfl) (by kernel_rfl) (by kernel_rfl) (fun _ _ _ h => h) (Or.inl ⟨by rfl, ?ey10⟩) (by assumption) ?er10
          case ey10 => (intro w hSw; (try dsimp only at hSw); go_simp; try (with_reducible rfl))
          case er10 =>
          try simp only [Act.put, List.setIfInBounds_toArray, List.set_cons_zero, List.set_cons_succ]
          refine wpAnyH_ready (rs := [6]) (by kernel_rfl) (by simp) ?_
          refine AllReadyH.cons (o := { dst := some 84, op := Go.Op.load 101 (Go.Operand.tmp 83), type := 101, pos := "intake.go:32", after := #[{ on := 5, ground := Go.Ground.data }], guard := none }) rfl (fun K hK => ?_) (AllReadyH.nil)
          simp only [Region.wanted, if_true]
          refine wp_load_mid 101 (.tmp 83) rfl g 0 rfl L _ HRA.out Tryd.underlying101 rfl HI.out ?_
          refine hK.out _ _ ?_ (fun hHeld => ?_)
          · exact hHeld
          clear hK K
          try simp only [Act.put, List.setIfInBounds_toArray, List.set_cons_zero, List.set_cons_succ]
          refine wpAnyH_ready (rs := [11]) (by kernel_rfl) (by simp) ?_
          refine AllReadyH.cons (o := { dst := some 89, op := Go.Op.call { callee := Go.Callee.value (Go.Operand.tmp 80), args := #[Go.Operand.tmp 84, Go.Operand.tmp 88], argTypes := #[101, 27] }, type := 101, pos := "intake.go:32", after := #[{ on := 2, ground := Go.Ground.data }, { on := 6, ground := Go.Ground.data }, { on := 10, ground := Go.Ground.data }], guard := none }) rfl (fun K hK => ?_) (AllReadyH.nil)
          go_simp
          refine (STEP.out).mono ?_
          rintro e w5 ⟨rfl, hb5⟩
          go_simp
          have B5 := Lib.hid (show Below wr.heap.size wr w5 from ⟨hb5.os, hb5.tape, hb5.output, hb5.size, hb5.block⟩)
          have rG6 := RG.out.below B5.out RG.out.lt
          have th6 := Lib.hid (show w5.there g 0 M.toArray.size from rG6.there (by rw [inRow_length _ (S8.list_length s2) HRL.out, List.size_toArray, HML.out]; decide))
          have RG6 := Lib.hid rG6
          clear hb5 rG6
          refine hK.out _ _ ?_ (fun hHeld => ?_)
          · exact ⟨(RK.out.below B5.out RK.out.lt).cell rfl, (RK.out.below B5.out RK.out.lt).cell rfl⟩
          clear hK K
          try simp only [Act.put, List.setIfInBounds_toArray, List.set_cons_zero, List.set_cons_succ]
          refine wpAnyH_take (i := 12) (oi := { dst := some 90, op := Go.Op.nilCheck (Go.Operand.tmp 78), type := 0, pos := "intake.go:32", after := #[{ on := 0, ground := Go.Ground.data }, { on := 0, ground := Go.Ground.phase }, { on := 1, ground := Go.Ground.phase }, { on := 2, ground := Go.Ground.phase }, { on := 3, ground := Go.Ground.phase }, { on := 4, ground := Go.Ground.phase }, { on := 5, ground := Go.Ground.phase }, { on := 6, ground := Go.Ground.phase }, { on := 7, ground := Go.Ground.phase }, { on := 8, ground := Go.Ground.phase }, { on := 9, ground := Go.Ground.phase }, { on := 10, ground := Go.Ground.phase }, { on := 11, ground := Go.Ground.phase }], guard := none }) (v := ?e_6_11v12) rfl (by kernel_rfl) (by kernel_rfl) (by kernel_rfl) (fun _ _ _ h => h) (Or.inl ⟨by rfl, ?e_6_11y12⟩) (by assumption) ?e_6_11r12
          case e_6_11y12 => (intro w hSw; (try dsimp only at hSw); go_simp; try (with_reducible rfl))
          case e_6_11r12 =>
          try simp only [Act.put, List.setIfInBounds_toArray, List.set_cons_zero, List.set_cons_succ]
          refine wpAnyH_take (i := 13) (oi := { dst := some 91, op := Go.Op.fieldAddr 110 (Go.Operand.tmp 90) 0, type := 0, pos := "intake.go:32", after := #[{ on := 12, ground := Go.Ground.data }, { on := 0, ground := Go.Ground.phase }, { on := 1, ground := Go.Ground.phase }, { on := 2, ground := Go.Ground.phase }, { on := 3, ground := Go.Ground.phase }, { on := 4, ground := Go.Ground.phase }, { on := 5, ground := Go.Ground.phase }, { on := 6, ground := Go.Ground.phase }, { on := 7, ground := Go.Ground.phase }, { on := 8, ground := Go.Ground.phase }, { on := 9, ground := Go.Ground.phase }, { on := 10, ground := Go.Ground.phase }, { on := 11, ground := Go.Ground.phase }], guard := none }) (v := ?e_6_11v13) rfl (by kernel_rfl) (by kernel_rfl) (by kernel_rfl) (fun _ _ _ h => h) (Or.inl ⟨by rfl, ?e_6_11y13⟩) (by assumption) ?e_6_11r13
          case e_6_11y13 => (intro w hSw; (try dsimp only at hSw); go_simp; try (with_reducible rfl))
          case e_6_11r13 =>
          try simp only [Act.put, List.setIfInBounds_toArray, List.set_cons_zero, List.set_cons_succ]
          refine wpAnyH_ready (rs := [14]) (by kernel_rfl) (by simp) ?_
          refine AllReadyH.cons (o := { dst := none, op := Go.Op.store 101 (Go.Operand.tmp 91) (Go.Operand.tmp 89), type := 0, pos := "intake.go:32", after := #[{ on := 13, ground := Go.Ground.data }, { on := 11, ground := Go.Ground.data }, { on := 11, ground := Go.Ground.chain }, { on := 0, ground := Go.Ground.phase }, { on := 1, ground := Go.Ground.phase }, { on := 2, ground := Go.Ground.phase }, { on := 3, ground := Go.Ground.phase }, { on := 4, ground := Go.Ground.phase }, { on := 5, ground := Go.Ground.phase }, { on := 6, ground := Go.Ground.phase }, { on := 7, ground := Go.Ground.phase }, { on := 8, ground := Go.Ground.phase }, { on := 9, ground := Go.Ground.phase }, { on := 10, ground := Go.Ground.phase }, { on := 11, ground := Go.Ground.phase }], guard := none }) rfl (fun K hK => ?_) (AllReadyH.nil)
          simp only [Region.wanted, if_true]
          refine wp_store_mid 101 (.tmp 91) (.tmp 89) rfl g 0 M.toArray rfl rfl th6.out HI2.out HO.out ?_
          refine hK.out _ _ ?_ (fun hHeld => ?_)
          · exact ⟨(VRow.setCells_other (by omega) _ (RK.out.below B5.out RK.out.lt)).cell rfl, (VRow.setCells_other (by omega) _ (RK.out.below B5.out RK.out.lt)).cell rfl⟩
          clear hK K
          try simp only [Act.put]
          refine wpAnyH_done (by kernel_rfl) ?_ _
          have tT6 : Turns (· = g) wr (w5.setCells g 0 M) := Turns.setCells (S := (· = g)) (fun _ => rfl) _ (Turns.of_below (S := (· = g)) B5.out)
          have rG7 := VRow.setCells M (o := 0) RG6.out (by rw [inRow_length _ (S8.list_length s2) HRL.out, HML.out]; decide)
          have hu := inRow_words (us := (comp256 s2 ys).list) N (rest := rest2) (S8.list_length s2) rfl
          rw [← HMM.out] at hu
          rw [hu] at rG7
          obtain ⟨w6, hw6⟩ : ∃ x, x = w5.setCells g 0 M := ⟨_, rfl⟩
          rw [← hw6] at tT6 rG7 ⊢
          have rK7 := RK.out.turns tT6 (by omega)
          have tK7 := TK.out.trans tT6 (fun _ _ h => h)
          have sr7 := SR.out.turns tT6 (fun _ h => h)
          have hsl := run_tail (some ⟨bb, o, none⟩) bs.length c3 64 h64
          have e64 : ((64 : Nat) : Int) = 64 := rfl
          rw [e64] at hsl
          have sr8 := sr7.tail (z := 64) h64
          have hmid : Mid w g K t (m ++ b) (.slice (if c3 = 64 then some ⟨bb, o, none⟩ else (some ⟨bb, o, none⟩ : Option Addr).map (fun x => x.add 64)) (bs.length - 64) (c3 - 64)) w6 := by
            refine ⟨q + 1, rest2, by rw [← HN.out]; have := HBL.out; omega, HRL.out, ?_, ?_, rK7, tK7⟩
            · have e : 64 * (q + 1) = 64 * q + 64 := by omega
              rw [e, ← List.drop_drop, ← HBS.out]; exact sr8
            · rw [blocks256, ← HBS.out, ← HS2.out, ← HYS.out, ← HN.out]; exact rG7
          have HMID := Lib.hid hmid
          have k07 : w6.cell? ⟨K, 0, none⟩ = some (.int .i64 64) := rK7.cell rfl
          obtain ⟨A2, hA2⟩ : ∃ A2, A2 = if c3 = 64 then some ⟨bb, o, none⟩ else (some ⟨bb, o, none⟩ : Option Addr).map (fun x => x.add 64) := ⟨_, rfl⟩
          rw [← hA2] at hsl HMID
          clear hmid hw6 tT6 rG7 hu rK7 tK7 sr7 sr8 hA2 hHeld RG6 B5 th6 e64 k0 k9
          go_wp2_with fail
          exact ⟨HMID.out, by simp only [slen]; omega⟩
        · have d0 : ¬ (64 : Int) ≤ (bs.length : Int) := by omega
          have hover : over (inRow s2.list rest2 N) 8 (bs.take bs.length) = inRow s2.list (laid rest2 0 (nums bs)) N := by
            have h := inRow_laid (ws := s2.list) (rest := rest2) (ns := nums bs) N (k := 0) rfl (by rw [nums_length, HRL.out]; omega)
            rw [nums_bv] at h
            rw [List.take_length]
            exact h
          have hfin : ∀ w', VRow w' g t (inRow s2.list (laid rest2 0 (nums bs)) N) → Turns (· = g) w w' → Fed w g t (m ++ b) (.returned (.tuple #[])) w' := fun w' h1 h2 => by
            have hq : q = (m ++ b).length / 64 := by have := HBL.out; rw [← HN.out]; omega
            refine ⟨rfl, s2.list, laid rest2 0 (nums bs), ?_, rfl, by rw [← HN.out]; exact h1, h2⟩
            have h := Took.done (m := m ++ b) HRL.out
            rw [← hq, ← HBS.out, ← HS2.out] at h
            exact h
          have HFIN := Lib.hid hfin
          have tK9 : Turns (· = g) w (wr.setRow g (over (inRow s2.list rest2 N) 8 (bs.take bs.length)).toArray) := tK.setRow (fun _ => rfl) _
          have rG9 : VRow (wr.setRow g (over (inRow s2.list rest2 N) 8 (bs.take bs.length)).toArray) g t (inRow s2.list (laid rest2 0 (nums bs)) N) := by rw [hover]; exact rG.setRow _
          have RG := Lib.hid rG
          have SR := Lib.hid sr
          have TK9 := Lib.hid tK9
          have RG9 := Lib.hid rG9
          have HF := Lib.hid (show 8 + bs.length ≤ (inRow s2.list rest2 N).length by rw [inRow_length _ (S8.list_length s2) HRL.out]; omega)
          have HMN := Lib.hid (show bs.length = min bs.length 128 by omega)
          rw [List.take_length] at RG9 TK9
          clear rG sr tK tK9 rG9 hover hfin rK
          go_wp2_with (first
            | (refine wpList_copy_src rfl (.tmp 99) (.tmp 100) rfl g 8 128 128 t _ RG.out rfl rfl SR.out bs.length HMN.out HF.out ?_))
          exact bodyPost_end (results_none Tryd.results84 _ _ _) rfl (HFIN.out _ RG9.out TK9.out)
end Go.Proofs.YthelmclpmalofaaDoor
