/-
  Texts joined: Shelf, HkPath, HkAwake. Conditions: those of each.
-/
import Derived.Shelf.LaysM
import Derived.Shelf.Strconv.AppendInt10
import Derived.Test.YtfkpdbmgiefnfaaDoorProg
import Derived.Test.YtfkpdbmgiefnfaaDoorP19
import Derived.Test.YtfkpdbmgiefnfaaDoorP20
import Derived.ArgAppend
import Derived.Lib.AppendIntMem
/-
  DERIVED: THE SHELF's CONTRACTS AT THIS DUMP, IN PLAIN WORDS (tools/lay-plain.mjs out of 'TrydShelf.lean', which tools/lay-shelf.mjs wrote): THE SAME DECLARATIONS UNDER THE SAME NAMES: 'import', 'namespace', 'open', 'def', 'theorem' AND NOTHING ELSE: no command of the shelf's: FOR A HAND-IN. Each laying: the table of numbers ('.._ren') and one theorem, a field a fact of the dump's own or the kernel's comparison; each contract: ONE APPLICATION.
-/
namespace Go.Proofs
open Go.Shelf
def Tryd.laysM288_ren : Go.Shelf.Ren := ⟨fun | 288 => 36 | 283 => 54 | 284 => 55 | 285 => 56 | 286 => 57 | 129 => 73 | 317 => 72 | 318 => 74 | 319 => 75 | 320 => 76 | 337 => 91 | 338 => 92 | n => n, fun | 37 => 22 | 53 => 57 | 3 => 3 | 4 => 4 | 9 => 9 | 171 => 110 | 0 => 0 | 173 => 113 | 212 => 127 | 51 => 27 | 5 => 5 | 20 => 20 | 213 => 128 | 46 => 99 | 232 => 28 | 233 => 51 | n => n, fun | 17 => 3 | 18 => 9 | 19 => 10 | n => n⟩
theorem Tryd.laysM288 : Go.Proofs.LaysM.n288 Tryd.prog Tryd.laysM288_ren := {
  mixed := by kernel_rfl
  f129 := Tryd.func73.trans (congrArg some (by kernel_rfl))
  f283 := Tryd.func54.trans (congrArg some (by kernel_rfl))
  f284 := Tryd.func55.trans (congrArg some (by kernel_rfl))
  f285 := Tryd.func56.trans (congrArg some (by kernel_rfl))
  f286 := Tryd.func57.trans (congrArg some (by kernel_rfl))
  f288 := Tryd.func36.trans (congrArg some (by kernel_rfl))
  f317 := Tryd.func72.trans (congrArg some (by kernel_rfl))
  f318 := Tryd.func74.trans (congrArg some (by kernel_rfl))
  f319 := Tryd.func75.trans (congrArg some (by kernel_rfl))
  f320 := Tryd.func76.trans (congrArg some (by kernel_rfl))
  f337 := Tryd.func91.trans (congrArg some (by kernel_rfl))
  f338 := Tryd.func92.trans (congrArg some (by kernel_rfl))
  t0 := Tryd.underlying0
  a0 := Tryd.isAgg0
  z0 := Tryd.sizeOf0
  v0 := Tryd.zeroValue0
  t3 := Tryd.underlying3
  a3 := Tryd.isAgg3
  z3 := Tryd.sizeOf3
  v3 := Tryd.zeroValue3
  t4 := Tryd.underlying4
  a4 := Tryd.isAgg4
  z4 := Tryd.sizeOf4
  v4 := Tryd.zeroValue4
  t5 := Tryd.underlying5
  a5 := Tryd.isAgg5
  z5 := Tryd.sizeOf5
  v5 := Tryd.zeroValue5
  t9 := Tryd.underlying9
  a9 := Tryd.isAgg9
  z9 := Tryd.sizeOf9
  v9 := Tryd.zeroValue9
  t20 := Tryd.underlying20
  a20 := Tryd.isAgg20
  z20 := Tryd.sizeOf20
  v20 := Tryd.zeroValue20
  t37 := Tryd.underlying22
  a37 := Tryd.isAgg22
  z37 := Tryd.sizeOf22
  v37 := Tryd.zeroValue22
  t46 := Tryd.underlying99
  a46 := Tryd.isAgg99
  z46 := Tryd.sizeOf99
  v46 := Tryd.zeroValue99
  t51 := Tryd.underlying27
  a51 := Tryd.isAgg27
  z51 := Tryd.sizeOf27
  v51 := Tryd.zeroValue27
  t53 := Tryd.underlying57
  a53 := Tryd.isAgg57
  z53 := Tryd.sizeOf57
  v53 := Tryd.zeroValue57
  t171 := Tryd.underlying110
  a171 := Tryd.isAgg110
  z171 := Tryd.sizeOf110
  v171 := Tryd.zeroValue110
  t173 := Tryd.underlying113
  a173 := Tryd.isAgg113
  z173 := Tryd.sizeOf113
  v173 := Tryd.zeroValue113
  t212 := Tryd.underlying127
  a212 := Tryd.isAgg127
  z212 := Tryd.sizeOf127
  v212 := Tryd.zeroValue127
  t213 := Tryd.underlying128
  a213 := Tryd.isAgg128
  z213 := Tryd.sizeOf128
  t232 := Tryd.underlying28
  a232 := Tryd.isAgg28
  z232 := Tryd.sizeOf28
  v232 := Tryd.zeroValue28
  t233 := Tryd.underlying51
  a233 := Tryd.isAgg51
  z233 := Tryd.sizeOf51
  v233 := Tryd.zeroValue51
  g17 := by kernel_rfl
  g18 := by kernel_rfl
  g19 := by kernel_rfl
  i0 := by kernel_rfl
  i3 := by kernel_rfl
  i4 := by kernel_rfl
  i5 := by kernel_rfl
  i9 := by kernel_rfl
  i20 := by kernel_rfl
  i37 := by kernel_rfl
  i46 := by kernel_rfl
  i51 := by kernel_rfl
  i53 := by kernel_rfl
  i171 := by kernel_rfl
  i173 := by kernel_rfl
  i212 := by kernel_rfl
  i232 := by kernel_rfl
  i233 := by kernel_rfl
  m17 := by kernel_rfl
  m18 := by kernel_rfl
  m19 := by kernel_rfl }
open Go.RowKit Go.Sort Go.Lib in
/-- internal/strconv.AppendUint(dst, i, 10): the two contracts as one. NO WALK. (LAID: no walk: one application.) -/
theorem Tryd.internal_strconv_AppendUint_10 (B n u : Nat) (hu64 : u < 18446744073709551616) (sv : Value) (xs : List Value) (w : World) (hown : w.ownsRow B 5 1 sv n xs) (hBw : B ≤ w.heap.size) (hlim : n + 20 ≤ 140737488355328) (htab : Lib.TabIs Tryd.prog w "internal/strconv.uint64pow10" .u64 Lib.pow10Tab) :
    Calls Tryd.prog 36 #[sv, .int .u64 u, .int .i64 10] w fun e w' => ∃ v', e = .returned v' ∧ w'.ownsRow B 5 1 v' (n + (Lib.decDigits u).length) (xs ++ Lib.byteCells (Lib.decDigits u)) ∧ Below B w w' ∧ Lib.OthersKept 5 none w w' := Any.internal_strconv_AppendUint_10 Tryd.laysM288 B n u hu64 sv xs w hown hBw hlim htab
end Go.Proofs

/-
  hdkey.Path, walked: a path as text. Conditions: at most 300 steps of 32 bits; the powers of ten are laid.
-/
namespace Go.Proofs.YtfkpdbmgiefnfaaDoor.Hk
open Go.RowKit

/-- Bytes in a block of one's own, or in a full one whose end is marked. -/
def OutIs (w : World) (base : Nat) (v : Value) (l : List UInt8) : Prop :=
  w.ownsRow base 5 1 v l.length (l.map bv) ∨ ∃ g, v = .slice (some ⟨g, 0, none⟩) l.length l.length ∧ base ≤ g ∧ g < w.heap.size ∧ l.length ≤ maxLen ∧ ∀ j u, l[j]? = some u → w.cell? ⟨g, j, none⟩ = some (bv u)
theorem OutIs.byt {w : World} {base : Nat} {v : Value} {l : List UInt8} (h : OutIs w base v l) : Byt w w.heap.size v l := by
  rcases h with h | ⟨g, rfl, hb, hg, hm, hc⟩
  · exact Byt.of_own h
  · exact ⟨_, _, rfl, Nat.le_refl _, hm, (by intro h; cases h), fun _ => ⟨g, 0, rfl, hg, fun j u hu => by rw [Nat.zero_add]; exact hc j u hu⟩⟩
theorem OutIs.alloc {w : World} {base : Nat} {v : Value} {l : List UInt8} (h : OutIs w base v l) (o : Obj) : OutIs (w.alloc o) base v l := by
  rcases h with h | ⟨g, rfl, hb, hg, hm, hc⟩
  · exact Or.inl (h.alloc _)
  · exact Or.inr ⟨g, rfl, hb, by simp; omega, hm, fun j u hu => cell_later (Below.alloc (Below.refl _ _) (Nat.le_refl _) _) (hc j u hu)⟩
theorem wpList_append_out {w : World} {ops : Array Oper} {rest : List Oper} {o : Oper} {a : Act} {Q : Exit → Act → World → Prop} (hgd : o.guard = none) (s x : Operand)
    (ho : o.op = .call { callee := .builtin .append, args := #[s, x], argTypes := #[22, 22] })
    (base : Nat) (v : Value) (l : List UInt8) (hs : a.eval s = v) (hO : OutIs w base v l) (B : Nat) (u : Value) (ys : List UInt8) (hx : a.eval x = u) (hr : Byt w B u ys) (hne : ys ≠ []) (hb : l.length + ys.length ≤ 140737488355328) (hbase : base ≤ w.heap.size)
    (h : ∀ v' w', w'.ownsRow base 5 1 v' (l.length + ys.length) ((l ++ ys).map bv) → Below base w w' → wpList Tryd.prog ops Q rest (a.put o.dst v') w') : wpList Tryd.prog ops Q (o :: rest) a w := by
  obtain ⟨i0, hi, hz0, hz1, hz2⟩ := info_parts info_u8
  rcases hO with hown | ⟨g, rfl, hbg, hg, hm, hc⟩
  · exact wpList_append_bytes hgd s x 22 ho base 5 i0 slice_u8 hi hz0 hz1 hz2 v l.length (l.map bv) hs hown B u ys hx hr hb hbase
      (fun v' w' h1 h2 _ => h v' w' (by rw [List.map_append]; exact h1) ((Below.refl base w).grown h2 hbase (fun j hj => (hown.lt j hj).1)))
  · obtain ⟨A, c, rfl, hlc, hcm, hA, hcell⟩ := hr
    obtain ⟨b, o', rfl, hbB, hcl⟩ := hcell hne
    have hadd : ∀ (p q j : Nat), (⟨p, q, none⟩ : Addr).add j = ⟨p, q + j, none⟩ := fun p q j => by unfold Addr.add; split <;> simp_all
    refine wpList_append_grows w hgd s x 22 ho 5 i0 (.int .u8 0) 1 1 slice_u8 hi hz0 hz1 hz2 rfl (by omega) (some ⟨g, 0, none⟩) l.length l.length (l.map bv) hs (by intro h; cases h) (by simp) (fun b hb j u hu => ?_) ⟨b, o', none⟩ ys.length c (ys.map bv) hx (by simp) (fun j u hu => ?_) (fun u hu => ?_) ?_ (by unfold maxLen; omega) (by omega) (fun v' w' h1 h2 => h v' w' ?_ ((Below.refl base w).grown h2 hbase (fun j hj => by cases hj)))
    · obtain rfl := Option.some.inj hb
      rw [hadd, Nat.zero_add]
      rw [List.getElem?_map] at hu
      cases hq : l[j]? with
      | none => rw [hq] at hu; cases hu
      | some q => rw [hq] at hu; obtain rfl := Option.some.inj hu; exact hc j q hq
    · rw [hadd]
      rw [List.getElem?_map] at hu
      cases hq : ys[j]? with
      | none => rw [hq] at hu; cases hu
      | some q => rw [hq] at hu; obtain rfl := Option.some.inj hu; exact hcl j q hq
    · obtain ⟨q, _, rfl⟩ := List.mem_map.1 hu
      rfl
    · have := List.length_pos_iff.2 hne
      omega
    · rw [List.map_append]
      refine ⟨h1.1, ?_⟩
      rcases h1.2 with hn | ⟨g', cap, cur, hv, hb2, rest⟩
      · exact Or.inl hn
      · exact Or.inr ⟨g', cap, cur, hv, by omega, rest⟩

/-- A step as text. -/
def stepB (p : Int) : List UInt8 := 47 :: Lib.decDigits (p % 2147483648).toNat ++ (if 2147483648 ≤ p then [39] else [])
def pathB (ps : List Int) : List UInt8 := 109 :: ps.flatMap stepB
theorem pathB_snoc (ps : List Int) (p : Int) : pathB (ps ++ [p]) = pathB ps ++ stepB p := by simp [pathB]
theorem dec_len : ∀ (k u : Nat), 0 < k → u < 10 ^ k → (Lib.decDigits u).length ≤ k
  | 0, _, h, _ => by omega
  | 1, u, _, h => by rw [Lib.decDigits_one (by omega)]; simp
  | k + 2, u, _, h => by
    rw [Lib.decDigits]
    split
    · simp
    · rw [List.length_append, List.length_singleton]
      have := dec_len (k + 1) (u / 10) (by omega) (by rw [Nat.pow_succ] at h; omega)
      omega
theorem stepB_len {p : Int} : (stepB p).length ≤ 12 := by
  have h := dec_len 10 (p % 2147483648).toNat (by omega) (by omega)
  unfold stepB
  rw [List.length_append, List.length_cons]
  split <;> simp <;> omega
theorem pathB_len (ps : List Int) : (pathB ps).length ≤ 1 + 12 * ps.length := by
  unfold pathB
  rw [List.length_cons]
  induction ps with
  | nil => simp
  | cons p ps ih =>
    have := @stepB_len p
    rw [List.flatMap_cons, List.length_append, List.length_cons]
    omega
def TabOk (B : Nat) (w : World) : Prop := Lib.TabBelow Tryd.prog B w "internal/strconv.uint64pow10" .u64 Lib.pow10Tab

set_option maxRecDepth 100000 in
set_option maxHeartbeats 1600000 in
theorem appendUint_any (B : Nat) (sv : Value) (l : List UInt8) (u : Nat) (hu : u < 18446744073709551616) (w : World) (hown : w.ownsRow B 5 1 sv l.length (l.map bv)) (hB : B ≤ w.heap.size) (hl : l.length + 20 ≤ 140737488355328) (ht : TabOk B w) :
    Calls Tryd.prog 22 #[sv, .int .u64 (u : Int), .int .i64 10] w fun e w' => ∃ v', e = .returned v' ∧ w'.ownsRow B 5 1 v' (l ++ Lib.decDigits u).length ((l ++ Lib.decDigits u).map bv) ∧ Below B w w' := by
  have C := Lib.hid (Tryd.internal_strconv_AppendUint_10 B l.length u hu sv (l.map bv) w hown hB hl ht.here)
  obtain ⟨A, c, rfl⟩ := own_form hown
  clear hown ht
  go_enter Tryd.func22, Tryd.ntmps22
  go_wp2_with fail
  refine C.out.mono ?_
  rintro e w2 ⟨v2, rfl, hown2, hb2, -⟩
  have e1 : (l ++ Lib.decDigits u).map bv = l.map bv ++ Lib.byteCells (Lib.decDigits u) := by rw [List.map_append]; rfl
  have HO := Lib.hid (show w2.ownsRow B 5 1 v2 (l ++ Lib.decDigits u).length ((l ++ Lib.decDigits u).map bv) by rw [e1, List.length_append]; exact hown2)
  obtain ⟨A2, c2, rfl⟩ := own_form hown2
  have HB := Lib.hid hb2
  clear hown2 hb2 e1
  go_wp2_with fail
  go_ret
  exact ⟨_, rfl, HO.out, HB.out⟩

set_option maxRecDepth 100000 in
set_option maxHeartbeats 12800000 in
theorem path_any (B : Nat) (v : Value) (ps : List Int) (w : World) (hx : Ints .u32 w B v ps) (hB : B ≤ w.heap.size) (hp : ∀ p ∈ ps, 0 ≤ p ∧ p < 4294967296) (hl : ps.length ≤ 300) (ht : Lib.TabIs Tryd.prog w "internal/strconv.uint64pow10" .u64 Lib.pow10Tab) :
    Calls Tryd.prog 11 #[v] w fun e w' => e = .returned (.string ⟨(pathB ps).toArray⟩) ∧ Below w.heap.size w w' := by
  have hx0 := hx
  obtain ⟨A, c, rfl, hlc, hcm, hA, hcell⟩ := hx0
  have htb := Lib.tabBelow_of_tabIs ht
  have o1 : OutIs (w.alloc (.cells #[.int .u8 109] 5 (1, 2))) w.heap.size (.slice (some ⟨w.heap.size, 0, none⟩) 1 1) [109] := Or.inr ⟨w.heap.size, rfl, Nat.le_refl _, by simp, by unfold maxLen; simp, fun j u hu => by
    rw [cell_of_row _ w.heap.size j _ _ _ (heap_alloc_new w _)]
    match j, hu with
    | 0, hu => simp at hu; subst hu; rfl
    | j + 1, hu => simp at hu⟩
  have b1 : Below w.heap.size w (w.alloc (.cells #[.int .u8 109] 5 (1, 2))) := (Below.refl _ w).alloc (Nat.le_refl _) _
  have kc := Lib.run_convert_bytes_const (P := Tryd.prog) w 22 5 #[.int .u8 109] 1 1 Tryd.underlying22 Tryd.underlying5
  obtain ⟨wA, hwA⟩ : ∃ z, z = w.alloc (.cells #[.int .u8 109] 5 (1, 2)) := ⟨_, rfl⟩
  rw [← hwA] at o1 b1
  obtain ⟨GA, hGA⟩ : ∃ g, g = w.heap.size := ⟨_, rfl⟩
  rw [← hGA] at o1 b1 htb hB
  have HX := Lib.hid hx
  have HP := Lib.hid hp
  have HT : Hid (TabOk GA w) := Lib.hid htb
  have O1 := Lib.hid o1
  have B1 := Lib.hid b1
  have HWA := Lib.hid hwA
  have HGA := Lib.hid hGA
  have HBG := Lib.hid hB
  obtain ⟨n, hn⟩ : ∃ n, n = ps.length := ⟨_, rfl⟩
  rw [← hn] at hl hlc ⊢
  have HN := Lib.hid hn
  have HA := Lib.hid hA
  have HCELL := Lib.hid hcell
  clear hx hp ht htb o1 b1 hwA hGA hB hn hA hcell
  go_enter Tryd.func11, Tryd.ntmps11
  go_upto_region 2 with fail
  change Code.wp _ _ _ _ (w.alloc (.cells #[.int .u8 109] 5 (1, 2)))
  rw [← HWA.out, show w.heap.size = GA from HGA.out.symm]
  clear HWA kc
  try dsimp only [Act.put]
  go_wp2_with fail
  go_loopw [3, 10] (fun v3 v10 wr => ∃ i : Nat, i ≤ n ∧ v10 = .int .i64 (i : Int) ∧ OutIs wr GA v3 (pathB (ps.take i)) ∧ Below GA w wr) (fun _ v10 _ => n - (intOf v10).toNat)
  case atStart => exact ⟨0, by omega, rfl, O1.out, B1.out⟩
  case round =>
    obtain ⟨i, hi, rfl, hout, hbel⟩ := hrel
    have hsz := hbel.size
    have hga := HGA.out
    by_cases hin : i < n
    · obtain ⟨p, hpi⟩ : ∃ p, ps[i]? = some p := ⟨_, List.getElem?_eq_getElem (by rw [← HN.out]; exact hin)⟩
      have hp2 := HP.out p (List.mem_of_getElem? hpi)
      obtain ⟨b, o, hAe, hbB, hcl⟩ := HCELL.out (by intro h; rw [h] at hpi; simp at hpi)
      subst hAe
      have hcp : wr.cell? ⟨b, o + i, none⟩ = some (.int .u32 p) := (hbel.cell (p := ⟨b, o + i, none⟩) (by show b < GA; have := HBG.out; omega)).trans (hcl i p hpi)
      have hsn : pathB (ps.take (i + 1)) = pathB (ps.take i) ++ stepB p := by rw [List.take_add_one, hpi]; exact pathB_snoc _ _
      have hlen : (pathB (ps.take i)).length ≤ 5000 := by
        have := pathB_len (ps.take i)
        rw [List.length_take] at this
        omega
      have hp0 := hp2.1
      have hp1 := hp2.2
      obtain ⟨d, hd⟩ : ∃ d, d = (p % 2147483648).toNat := ⟨_, rfl⟩
      have hdm : p % 2147483648 = (d : Int) := by omega
      have hd1 : d < 2147483648 := by omega
      have hdw : IntKind.u64.wrap (d : Int) = (d : Int) := by rw [IntKind.wrap_u64]; omega
      have hst : stepB p = 47 :: Lib.decDigits d ++ (if 2147483648 ≤ p then [39] else []) := by unfold stepB; rw [hd]
      obtain ⟨L, hL⟩ : ∃ L, L = pathB (ps.take i) := ⟨_, rfl⟩
      rw [← hL] at hout hsn hlen
      rw [hst] at hsn
      have HSN := Lib.hid hsn
      have m1 : Byt (wr.alloc (.cells #[.int .u8 47] 5)) (wr.heap.size + 1) (.slice (some ⟨wr.heap.size, 0, none⟩) 1 1) [47] := Byt.made wr 5 [_] [47] rfl (by unfold maxLen; simp)
      have o2 := hout.alloc (.cells #[.int .u8 47] 5)
      have dl := dec_len 10 d (by omega) (by omega)
      have HM1 := Lib.hid m1
      have HO2 := Lib.hid o2
      have hgr : GA ≤ wr.heap.size := by omega
      have HB2 := Lib.hid (hbel.alloc hgr (.cells #[.int .u8 47] 5))
      have bin : (i : Int) < (n : Int) := by omega
      have hv3 : ∃ A3 c3, u3 = .slice A3 L.length c3 := by
        rcases hout with h | ⟨g, h, _⟩
        · exact own_form h
        · exact ⟨_, _, h⟩
      obtain ⟨A3, c3, rfl⟩ := hv3
      clear hpi hp2 hcl hst hL m1 o2 hout hd hsn hga
      go_wp2_with (at_builtin; refine wpList_append_out rfl (.tmp 14) (.tmp 15) rfl GA _ L rfl HO2.out (wr.heap.size + 1) _ [47] rfl HM1.out (by simp) (by simp; omega) (by rw [World.size_alloc]; omega) ?_; intro v1 w1 hown1 hb1; obtain ⟨A1, c1, rfl⟩ := own_form hown1; have HOW1 := Lib.hid (show w1.ownsRow GA 5 1 (.slice A1 (L.length + 1) c1) (L ++ [47]).length ((L ++ [47]).map bv) by rw [List.length_append]; exact hown1); have HBW1 := Lib.hid (HB2.out.trans hb1); clear hown1 hb1)
      refine (appendUint_any GA (.slice A1 (L.length + 1) c1) (L ++ [47]) d (by omega) w1 HOW1.out (by have := HBW1.out.size; have := HGA.out; omega) (by simp; omega) (HT.out.on HBW1.out)).mono ?_
      rintro e w2 ⟨v2, rfl, hown2, hb2⟩
      obtain ⟨M, hM⟩ : ∃ M, M = L ++ [47] ++ Lib.decDigits d := ⟨_, rfl⟩
      have hMl : M.length ≤ 5011 := by rw [hM]; simp; omega
      rw [← hM] at hown2
      obtain ⟨A2, c2, rfl⟩ := own_form hown2
      have HW2 := Lib.hid (HBW1.out.trans hb2)
      have hs2 : GA ≤ w2.heap.size := by have := HW2.out.size; have := HGA.out; omega
      clear HO2 HM1 HB2 HOW1 HBW1 hb2 dl
      by_cases h31 : 2147483648 ≤ p
      · have hg : decide (2147483648 ≤ p) = true := decide_eq_true h31
        have hE : pathB (ps.take (i + 1)) = M ++ [39] := by rw [HSN.out, if_pos h31, hM]; simp
        have HE := Lib.hid hE
        have m2 : Byt (w2.alloc (.cells #[.int .u8 39] 5)) (w2.heap.size + 1) (.slice (some ⟨w2.heap.size, 0, none⟩) 1 1) [39] := Byt.made w2 5 [_] [39] rfl (by unfold maxLen; simp)
        have o3 : OutIs (w2.alloc (.cells #[.int .u8 39] 5)) GA (.slice A2 M.length c2) M := Or.inl (hown2.alloc _)
        have HM2 := Lib.hid m2
        have HO3 := Lib.hid o3
        have HB3 := Lib.hid (HW2.out.alloc hs2 (.cells #[.int .u8 39] 5))
        clear hE m2 o3 hown2 hM HSN HW2
        go_wp2_with (at_builtin; refine wpList_append_out rfl (.tmp 24) (.tmp 25) rfl GA _ M rfl HO3.out (w2.heap.size + 1) _ [39] rfl HM2.out (by simp) (by simp; omega) (by simp; omega) ?_; intro v4 w4 hown4 hb4; obtain ⟨A4, c4, rfl⟩ := own_form hown4; have HOW4 := Lib.hid (show w4.ownsRow GA 5 1 (.slice A4 (M.length + 1) c4) (M ++ [39]).length ((M ++ [39]).map bv) by rw [List.length_append]; exact hown4); have HBW4 := Lib.hid (HB3.out.trans hb4); clear hown4 hb4)
        go_roundw
        case rel => exact ⟨i + 1, by omega, by go_num, Or.inl (by rw [HE.out]; exact HOW4.out), HBW4.out⟩
        case measure => simp [intOf]; omega
      · have hg : decide (2147483648 ≤ p) = false := decide_eq_false h31
        have hE : pathB (ps.take (i + 1)) = M := by rw [HSN.out, if_neg h31, hM]; simp
        have HE := Lib.hid hE
        have HOW4 := Lib.hid hown2
        clear hE hown2 hM HSN
        go_wp2_with fail
        go_roundw
        case rel => exact ⟨i + 1, by omega, by go_num, Or.inl (by rw [HE.out]; exact HOW4.out), HW2.out⟩
        case measure => simp [intOf]; omega
    · have hie : ps.take i = ps := List.take_of_length_le (by rw [← HN.out]; omega)
      rw [hie] at hout
      have hby := hout.byt
      have hst := run_string_of (P := Tryd.prog) wr 22 9 5 slice_u8 Tryd.underlying5 Tryd.underlying9 _ _ _ hby
      obtain ⟨L, hL⟩ : ∃ L, L = pathB ps := ⟨_, rfl⟩
      rw [← hL] at hst hout
      have hv3 : ∃ A3 c3, u3 = .slice A3 L.length c3 := by
        rcases hout with h | ⟨g, h, _⟩
        · exact own_form h
        · exact ⟨_, _, h⟩
      obtain ⟨A3, c3, rfl⟩ := hv3
      have HL := Lib.hid hL
      have HB := Lib.hid hbel
      clear hie hby hout hL hbel hga
      go_wp2_with fail
      go_ret
      exact ⟨by rw [← HL.out]; rfl, by rw [← HGA.out]; exact HB.out⟩
end Go.Proofs.YtfkpdbmgiefnfaaDoor.Hk

/-
  The fixed fact of layer 6. Conditions: the roots, curve.order and the powers of ten are laid.
-/
namespace Go.Proofs.YtfkpdbmgiefnfaaDoor.Hk
open Go.RowKit

theorem path_fixed : pathB [2147483648, 1] = [109, 47, 48, 39, 47, 49] := by
  have h0 : (2147483648 % 2147483648 : Int).toNat = 0 := by decide
  have h1 : (1 % 2147483648 : Int).toNat = 1 := by decide
  simp [pathB, stepB, Lib.decDigits_one]

theorem wpList_load_vrow_g {ops : Array Oper} {rest : List Oper} {op : Oper} {a : Act} {w : World} {Q : Exit → Act → World → Prop} (hgd : Region.wanted op (yielded ops a.tmps) = true) (ty : TypeId) (x : Operand) (ho : op.op = .load ty x)
    {g : Nat} {t : TypeId} {vs : List Value} {fs : Array Field} (hx : a.eval x = .pointer (some ⟨g, 0, none⟩)) (h : VRow w g t vs) (hu : Tryd.prog.underlying ty = some (.struct fs)) (hi : (Tryd.prog.info? ty).map (·.size) = some vs.length)
    (hn : wpList Tryd.prog ops Q rest (a.put op.dst (.agg vs.toArray)) w) : wpList Tryd.prog ops Q (op :: rest) a w :=
  wpList_step fun K hK => by
    rw [if_pos hgd]
    unfold Oper.wp execOp
    have hl : (Instr.loadAt ty (.pointer (some ⟨g, 0, none⟩))).run Tryd.prog w = .ok (.agg vs.toArray) w := by
      simp only [Instr.loadAt, Instr.sureAddr, Sem.run_bind, Sem.run_pure, Result.andThen_ok]
      exact run_loadVar_row w g t ty vs.toArray (0, 0) (.struct fs) h hu rfl (by rw [hi, List.size_toArray])
    simp only [ho, hx, hl, Sem.run_bind, Sem.run_pure, Result.andThen_ok]
    exact hK _ _ hn

set_option maxRecDepth 100000 in
set_option maxHeartbeats 6400000 in
theorem awake_any (w : World) (hr : Roots w) (ho : OrdIs w) (ht : Lib.TabIs Tryd.prog w "internal/strconv.uint64pow10" .u64 Lib.pow10Tab) :
    Calls Tryd.prog 5 #[] w fun e w' => e = .returned (.bool true) ∧ Below w.heap.size w w' := by
  have m1 : Byt (w.alloc (.cells (seed16.map bv).toArray 5)) (w.heap.size + 1) (.slice (some ⟨w.heap.size, 0, none⟩) 16 16) seed16 := Byt.made w 5 _ seed16 rfl (by unfold maxLen; decide)
  have b1 : Below w.heap.size w (w.alloc (.cells (seed16.map bv).toArray 5)) := (Below.refl _ w).alloc (Nat.le_refl _) _
  have ms := master_any (w.heap.size + 1) _ seed16 _ m1 (by simp) (hr.below b1) (ho.below b1 ho.1)
  rw [masterC_16, masterE_16] at ms
  have MS := Lib.hid ms
  have B1 := Lib.hid b1
  have TB := Lib.hid (Lib.tabBelow_of_tabIs ht)
  have PR : Hid (∀ W, Calls Tryd.prog 15 #[.agg (keyC last16 (0 :: first16)).toArray] W fun e w' => e = .returned (.bool true) ∧ Below W.heap.size W w') := Lib.hid (fun W => private_any last16 first16 0 W rfl)
  have c39 : (keyC last16 (0 :: first16))[39]? = some (.int .u8 232) := rfl
  have kl := keyC_length (show last16.length = 32 from rfl) (show (0 :: first16).length = 33 from rfl)
  have k1 := keyC_one last16 (0 :: first16)
  have IK := Lib.hid (show (Tryd.prog.info? 31).map (·.size) = some (keyC last16 (0 :: first16)).length by rw [kl]; exact info_key)
  have LK := Lib.hid (show zeroC.length = (keyC last16 (0 :: first16)).length by rw [kl]; rfl)
  have OK := Lib.hid k1
  obtain ⟨KC, hKC⟩ : ∃ l, l = keyC last16 (0 :: first16) := ⟨_, rfl⟩
  rw [← hKC] at MS PR c39 IK LK OK
  have HC := Lib.hid c39
  have z1 := zero_key
  have ZL := Lib.hid (show zeroC.length = 71 from rfl)
  obtain ⟨ZC, hZC⟩ : ∃ l, l = zeroC := ⟨_, rfl⟩
  rw [← hZC] at z1 LK ZL
  clear m1 b1 ms hr ho ht c39 kl k1 hKC hZC
  go_enter Tryd.func5, Tryd.ntmps5
  go_wp2_with fail
  refine MS.out.mono ?_
  rintro e w2 ⟨rfl, hb2⟩
  have b2 := B1.out.trans (hb2.mono (by simp))
  have rz := VRow.new w2 31 ZC
  have rk := rz.setRow KC
  have b3 := below_setRow (b2.alloc b2.size (.cells ZC.toArray 31)) b2.size KC.toArray
  have hs3 : w2.heap.size < ((w2.alloc (.cells ZC.toArray 31)).setRow w2.heap.size KC.toArray).heap.size := rk.lt
  have RZ := Lib.hid rz
  clear hb2 b2 rz
  go_upto_region 2 with (refine wpList_store_vrow rfl 31 (.tmp 1) (.tmp 6) rfl (g := w2.heap.size) (t := 31) (vs := ZC) (us := KC) rfl rfl RZ.out IK.out LK.out OK.out ?_)
  change Code.wp _ _ _ _ ((w2.alloc (.cells ZC.toArray 31)).setRow w2.heap.size KC.toArray)
  obtain ⟨w3, hw3⟩ : ∃ z, z = (w2.alloc (.cells ZC.toArray 31)).setRow w2.heap.size KC.toArray := ⟨_, rfl⟩
  rw [← hw3] at rk b3 hs3 ⊢
  obtain ⟨G, hG⟩ : ∃ g, g = w2.heap.size := ⟨_, rfl⟩
  rw [← hG] at rk hs3 ⊢
  have RK := Lib.hid rk
  have B3 := Lib.hid b3
  clear hw3 hG rk b3 hs3 RZ
  try dsimp only [Act.put]
  go_wp2_with (refine wpList_load_vrow_g (by rfl) 31 (.tmp 1) rfl (g := G) (t := 31) (vs := KC) rfl RK.out Tryd.underlying31 IK.out ?_)
  refine (PR.out _).mono ?_
  rintro e w4 ⟨rfl, hb4⟩
  have r4 := RK.out.below hb4 RK.out.lt
  have c4 : w4.cell? ⟨G, 39, none⟩ = some (.int .u8 232) := r4.cell HC.out
  have b4 := B3.out.trans (hb4.mono B3.out.size)
  have i4 : Ints .u32 (w4.alloc (.cells ([.int .u32 2147483648, .int .u32 1] : List Value).toArray 27)) (w4.heap.size + 1) (.slice (some ⟨w4.heap.size, 0, none⟩) 2 2) [2147483648, 1] := Ints.made .u32 w4 27 [2147483648, 1] _ rfl (by unfold maxLen; decide)
  have b5 := b4.alloc b4.size (.cells ([.int .u32 2147483648, .int .u32 1] : List Value).toArray 27)
  have pt := path_any (w4.heap.size + 1) _ [2147483648, 1] _ i4 (by simp) (by decide) (by decide) (TB.out.on b5).here
  rw [path_fixed] at pt
  have PT := Lib.hid pt
  have B5 := Lib.hid b5
  clear hb4 r4 b4 i4 b5 pt
  go_wp2_with fail
  refine PT.out.mono ?_
  rintro e w6 ⟨rfl, hb6⟩
  have HB := Lib.hid (B5.out.trans (hb6.mono B5.out.size))
  clear hb6
  go_wp2_with fail
  go_ret
  exact ⟨rfl, HB.out⟩
end Go.Proofs.YtfkpdbmgiefnfaaDoor.Hk
