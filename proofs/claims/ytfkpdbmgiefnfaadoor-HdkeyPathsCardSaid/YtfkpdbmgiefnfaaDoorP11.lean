/-
  Texts joined: B5C, S5Sum, RmPure. Conditions: those of each.
-/
import Derived.Test.YtfkpdbmgiefnfaaDoorP2
import Derived.Lib.AppendZerosOnto
import Derived.Lib.AppendZeros
import Derived.Deep.CutBlock
import Derived.Deep.DeepCutAuto
import Derived.Deep.LoopGhost
import Derived.Test.YtfkpdbmgiefnfaaDoorP10
import Derived.Test.YtfkpdbmgiefnfaaDoorP5
/-
  slices.Concat of slices of bytes. Conditions: sizes within the reach.
-/
namespace Go.Proofs.YtfkpdbmgiefnfaaDoor
open Go.RowKit

def Fresh (w : World) (xs : List UInt8) (e : Ending) (w' : World) : Prop :=
  ∃ A c, e = .returned (.slice A xs.length c) ∧ w'.ownsRow w.heap.size 5 1 (.slice A xs.length c) xs.length (xs.map bv) ∧ Below w.heap.size w w'
theorem fresh_v {w w' : World} {xs : List UInt8} {e : Ending} (h : Fresh w xs e w') : ∃ v, e = .returned v ∧ OwnB w' w.heap.size v xs ∧ Below w.heap.size w w' := by
  obtain ⟨A, c, he, ho, hb⟩ := h
  exact ⟨_, he, ho, hb⟩
theorem byt_later {w : World} {B : Nat} {v : Value} {xs : List UInt8} (h : Byt w B v xs) (o : Obj) : Byt (w.alloc o) B v xs := by
  obtain ⟨A, c, hv, hl, hm, hA, hx⟩ := h
  refine ⟨A, c, hv, hl, hm, hA, fun hne => ?_⟩
  obtain ⟨b, o2, e, hb, hc⟩ := hx hne
  exact ⟨b, o2, e, hb, fun j u hu => cell_later ((Below.refl _ w).alloc (Nat.le_refl _) o) (hc j u hu)⟩
theorem fresh_of {w w' : World} {v : Value} {xs : List UInt8} (h : w'.ownsRow w.heap.size 5 1 v xs.length (xs.map bv)) (hb : Below w.heap.size w w') : Fresh w xs (.returned v) w' := by
  obtain ⟨A, c, rfl⟩ := own_form h
  exact ⟨A, c, rfl, h, hb⟩
theorem own_b {w : World} {base n : Nat} {v : Value} {ys zs : List UInt8} (h : w.ownsRow base 5 1 v n (ys.map bv ++ zs.map bv)) (hn : n = ys.length + zs.length) : OwnB w base v (ys ++ zs) := by
  subst hn
  unfold OwnB
  rw [List.length_append, List.map_append]
  exact h
theorem fresh_own {w w' : World} {v : Value} {xs : List UInt8} (h : OwnB w' w.heap.size v xs) (hb : Below w.heap.size w w') : Fresh w xs (.returned v) w' := fresh_of h hb
/-- The slice value v reads as these slices of bytes. -/
def BagR (w : World) (B : Nat) (v : Value) (L : List (Value × List UInt8)) : Prop :=
  (∃ A c, v = .slice A L.length c ∧ L.length ≤ c ∧ c ≤ maxLen ∧ (L ≠ [] → ∃ b o, A = some ⟨b, o, none⟩ ∧ b < B ∧ ∀ i p, L[i]? = some p → w.cell? ⟨b, o + i, none⟩ = some p.1)) ∧ ∀ p ∈ L, Byt w B p.1 p.2
theorem BagR.form {w : World} {B : Nat} {v : Value} {L : List (Value × List UInt8)} (h : BagR w B v L) : ∃ A c, v = .slice A L.length c := by
  obtain ⟨⟨A, c, hv, _⟩, _⟩ := h
  exact ⟨A, c, hv⟩
theorem BagR.len {w : World} {B : Nat} {v : Value} {L : List (Value × List UInt8)} (h : BagR w B v L) : L.length ≤ 9223372036854775807 := by
  obtain ⟨⟨A, c, hv, h1, h2, _⟩, _⟩ := h
  unfold maxLen at h2
  omega
theorem BagR.below {w w' : World} {B : Nat} {v : Value} {L : List (Value × List UInt8)} (h : BagR w B v L) (hb : Below B w w') : BagR w' B v L := by
  obtain ⟨⟨A, c, hv, h1, h2, h3⟩, h4⟩ := h
  refine ⟨⟨A, c, hv, h1, h2, fun hne => ?_⟩, fun p hp => (h4 p hp).below hb⟩
  obtain ⟨b, o, e, hb', hc⟩ := h3 hne
  exact ⟨b, o, e, hb', fun i p hp => (hb.cell (p := ⟨b, _, none⟩) hb').trans (hc i p hp)⟩
theorem BagR.more {w : World} {B B' : Nat} {v : Value} {L : List (Value × List UInt8)} (h : BagR w B v L) (hB : B ≤ B') : BagR w B' v L := by
  obtain ⟨⟨A, c, hv, h1, h2, h3⟩, h4⟩ := h
  refine ⟨⟨A, c, hv, h1, h2, fun hne => ?_⟩, fun p hp => (h4 p hp).more hB⟩
  obtain ⟨b, o, e, hb', hc⟩ := h3 hne
  exact ⟨b, o, e, by omega, hc⟩
/-- A new block of just these slices. -/
theorem BagR.made (w : World) (t : TypeId) (l : List Value) (L : List (Value × List UInt8)) (h : l = L.map (·.1)) (hl : L.length ≤ maxLen) (hb : ∀ p ∈ L, Byt w w.heap.size p.1 p.2) :
    BagR (w.alloc (.cells l.toArray t)) (w.heap.size + 1) (.slice (some ⟨w.heap.size, 0, none⟩) L.length L.length) L := by
  refine ⟨⟨_, _, rfl, Nat.le_refl _, hl, fun _ => ⟨_, _, rfl, by omega, fun i p hp => ?_⟩⟩, fun p hp => (byt_later (hb p hp) _).more (by omega)⟩
  rw [Nat.zero_add, cell_of_row _ w.heap.size i _ _ _ (heap_alloc_new w _), h]
  simp [hp]

def total (L : List (Value × List UInt8)) : Nat := (L.map (fun p => p.2.length)).sum
def joined (L : List (Value × List UInt8)) : List UInt8 := (L.map (·.2)).flatten
theorem total_take {L : List (Value × List UInt8)} {k : Nat} (h : k < L.length) : total (L.take (k + 1)) = total (L.take k) + L[k].2.length := by
  unfold total
  rw [List.take_succ_eq_append_getElem h]
  simp only [List.map_append, List.sum_append, List.map_cons, List.map_nil, List.sum_cons, List.sum_nil, Nat.add_zero]
theorem joined_take {L : List (Value × List UInt8)} {k : Nat} (h : k < L.length) : joined (L.take (k + 1)) = joined (L.take k) ++ L[k].2 := by
  unfold joined
  rw [List.take_succ_eq_append_getElem h]
  simp only [List.map_append, List.flatten_append, List.map_cons, List.map_nil, List.flatten_cons, List.flatten_nil, List.append_nil]
theorem joined_length (L : List (Value × List UInt8)) : (joined L).length = total L := by unfold joined total; simp [List.length_flatten, Function.comp_def]
theorem total_take_le (L : List (Value × List UInt8)) (k : Nat) : total (L.take k) ≤ total L := by
  have h : L = L.take k ++ L.drop k := (List.take_append_drop k L).symm
  have : total L = total (L.take k) + total (L.drop k) := by
    conv => lhs; rw [h]
    unfold total
    rw [List.map_append, List.sum_append]
  omega

end Go.Proofs.YtfkpdbmgiefnfaaDoor

/-
  hash.sum512 over some pieces. Conditions: the sizes stay below 2^59; the roots are laid.
-/
namespace Go.Proofs.YtfkpdbmgiefnfaaDoor.S5
open Go.RowKit

theorem full_ne (m : List UInt8) : full m ≠ [] := by unfold full padB; simp
set_option maxRecDepth 100000 in
set_option maxHeartbeats 6400000 in
theorem sum512_any (B : Nat) (x : Value) (L : List (Value × List UInt8)) (W0 : World) (hx : BagR W0 B x L) (hB : B ≤ W0.heap.size) (hl : total L < 576460752303423488) (hroots : Roots W0) :
    Calls Tryd.prog 29 #[x] W0 fun e w' => e = .returned (digV (sha512 (joined L))) ∧ Below W0.heap.size W0 w' := by
  have hlen := hx.len
  obtain ⟨A, c, hxf⟩ := hx.form
  subst hxf
  have HX := Lib.hid hx
  have HROOTS := Lib.hid hroots
  have HBW := Lib.hid hB
  have z64 := zero_64
  have zk := zero_kind
  have zi := zero_in
  clear hx hroots
  have rA := IRow.new W0 51 .u8 (List.replicate 64 0)
  have bA : Below W0.heap.size W0 (W0.alloc (.cells ((List.replicate 64 (0 : Int)).map (Value.int .u8)).toArray 51)) := (Below.refl _ W0).alloc (Nat.le_refl _) _
  have sA : (W0.alloc (.cells ((List.replicate 64 (0 : Int)).map (Value.int .u8)).toArray 51)).heap.size = W0.heap.size + 1 := by simp
  go_enter Tryd.func29, Tryd.ntmps29
  go_upto_region 1 with fail
  change Code.wp _ _ _ _ (W0.alloc (.cells ((List.replicate 64 (0 : Int)).map (Value.int .u8)).toArray 51))
  obtain ⟨wA, hwA⟩ : ∃ x, x = W0.alloc (.cells ((List.replicate 64 (0 : Int)).map (Value.int .u8)).toArray 51) := ⟨_, rfl⟩
  rw [← hwA] at rA bA sA ⊢
  obtain ⟨B0, hB0⟩ : ∃ B0, B0 = W0.heap.size := ⟨_, rfl⟩
  rw [← hB0] at rA bA sA ⊢
  have hrg := HROOTS.out.root.below (B := B0) bA (by rw [hB0]; exact HROOTS.out.root.1)
  have HRA := Lib.hid (show wA.rangeAt 0 0 (start512.list.map (Value.int .u64)) from fun j v hv => by
    rw [Nat.zero_add]
    rw [List.getElem?_map] at hv
    have hv2 : (s512[j]?).map (Value.int .u64) = some v := hv
    cases hy : s512[j]? with
    | none => rw [hy] at hv2; exact absurd hv2 (by simp)
    | some y =>
      rw [hy] at hv2
      obtain rfl : Value.int .u64 y = v := Option.some.inj hv2
      exact hrg.2 j y hy)
  have HI8 := Lib.hid (show (Tryd.prog.info? 90).map (·.size) = some (start512.list.map (Value.int .u64)).length from info_8)
  have RZ := Lib.hid (VRow.new wA 93 zKind)
  have bB : Below wA.heap.size wA ((wA.alloc (.cells zKind.toArray 93)).setRow wA.heap.size kRow.toArray) := below_setRow ((Below.refl _ wA).alloc (Nat.le_refl _) _) (Nat.le_refl _) _
  have rB := RZ.out.setRow kRow
  have RA := Lib.hid rA
  have BA := Lib.hid bA
  have SA := Lib.hid sA
  have HB0 := Lib.hid hB0
  have RB := Lib.hid rB
  have BB := Lib.hid bB
  clear hwA rA bA sA hB0 hrg bB rB
  go_upto_region 2 with (first
    | (refine wpList_load_mid rfl 90 _ rfl 0 0 rfl (start512.list.map (Value.int .u64)) _ HRA.out Tryd.underlying90 rfl HI8.out ?_)
    | (refine wpList_build_lit rfl 93 _ (.agg kRow.toArray) rfl (fun _ => by kernel_rfl) ?_)
    | (refine wpList_store_vrow rfl 93 (.tmp 3) (.tmp 11) rfl (g := wA.heap.size) (t := 93) (vs := zKind) (us := kRow) rfl rfl RZ.out info_kind rfl kRow_one ?_))
  change Code.wp _ _ _ _ ((wA.alloc (.cells zKind.toArray 93)).setRow wA.heap.size kRow.toArray)
  obtain ⟨wB, hwB⟩ : ∃ x, x = (wA.alloc (.cells zKind.toArray 93)).setRow wA.heap.size kRow.toArray := ⟨_, rfl⟩
  have rB : VRow wB wA.heap.size 93 kRow := by rw [hwB]; exact RB.out
  have bB : Below wA.heap.size wA wB := by rw [hwB]; exact BB.out
  rw [← hwB]
  obtain ⟨BK, hBK⟩ : ∃ BK, BK = wA.heap.size := ⟨_, rfl⟩
  rw [← hBK] at rB bB ⊢
  have hk0 : BK = B0 + 1 := by rw [hBK, SA.out]
  have rA2 := RA.out.below bB (by omega)
  have b2 := BA.out.trans (bB.mono (by omega : B0 ≤ BK))
  have hkb := rB.lt
  have RK := Lib.hid rB
  have RA2 := Lib.hid rA2
  have B2 := Lib.hid b2
  have HK0 := Lib.hid hk0
  have HKB := Lib.hid hkb
  clear hwB rB bB hBK hk0 rA2 b2 hkb RB BB RZ HRA HI8
  try dsimp only [Act.put]
  go_upto_region 3 with fail
  change Code.wp _ _ _ _ (wB.alloc (.cells zIn.toArray 95))
  have sm := sum_zero wB 95
  have bC : Below wB.heap.size wB (wB.alloc (.cells zIn.toArray 95)) := (Below.refl _ wB).alloc (Nat.le_refl _) _
  have sC : (wB.alloc (.cells zIn.toArray 95)).heap.size = wB.heap.size + 1 := by simp
  obtain ⟨wC, hwC⟩ : ∃ x, x = wB.alloc (.cells zIn.toArray 95) := ⟨_, rfl⟩
  rw [← hwC] at sm bC sC ⊢
  obtain ⟨BI, hBI⟩ : ∃ BI, BI = wB.heap.size := ⟨_, rfl⟩
  rw [← hBI] at sm bC sC ⊢
  have hKI : BK < BI := by rw [hBI]; exact HKB.out
  have h0K : B0 < BK := by have := HK0.out; omega
  have SM := Lib.hid sm
  have RK3 := Lib.hid (RK.out.below bC hKI)
  have RA3 := Lib.hid (RA2.out.below bC (by omega))
  have B3 := Lib.hid (B2.out.trans (bC.mono (by omega : B0 ≤ BI)))
  have SC := Lib.hid sC
  have HOFF := Lib.hid (HROOTS.out.off (g := BI) (by rw [← HB0.out]; omega))
  clear hwC sm bC sC hBI RK RA2 B2 RA BA
  try dsimp only [Act.put]
  have hBB0 : B ≤ B0 := by rw [HB0.out]; exact hB
  have hIK := Lib.hid (show (Tryd.prog.info? 93).map (·.size) = some kRow.length from info_kind)
  go_wp2_with fail
  go_loopw [14] (fun j wr => ∃ k : Nat, k ≤ L.length ∧ j = .int .i64 (k : Int) ∧ SumIs wr BI 95 (joined (L.take k)) ∧ VRow wr BK 93 kRow ∧ IRow wr B0 51 .u8 (List.replicate 64 0) ∧ Below B0 W0 wr ∧ BI < wr.heap.size) (fun j _ => L.length - (intOf j).toNat)
  case atStart => exact ⟨0, by omega, rfl, SM.out, RK3.out, RA3.out, B3.out, by have := SC.out; omega⟩
  case round =>
    obtain ⟨k, hk, rfl, hsum, hrk, hra, hbel, hbi⟩ := hrel
    obtain ⟨w4, hw4⟩ : ∃ z : World, z = wr := ⟨_, rfl⟩
    rw [← hw4] at hsum hrk hra hbel hbi ⊢
    clear hw4
    have RK4 := Lib.hid hrk
    have RA4 := Lib.hid hra
    have B4 := Lib.hid hbel
    have BI4 := Lib.hid hbi
    have hro : Roots w4 := HROOTS.out.below (by rw [← HB0.out]; exact hbel)
    have RO4 := Lib.hid hro
    by_cases hlt : k < L.length
    · obtain ⟨⟨A', c', e0, _, _, h4⟩, h5⟩ := HX.out.below (hbel.mono (by rw [HB0.out]; exact hB))
      obtain ⟨e1, e2, e3⟩ := Value.slice.inj e0
      subst e1 e3
      clear e2
      obtain ⟨b, o, rfl, hb, hc⟩ := h4 (by rintro rfl; simp at hlt)
      have hc0 := hc k _ (List.getElem?_eq_getElem hlt)
      have hby := h5 _ (List.getElem_mem hlt)
      have hjt := joined_take hlt
      have htk := total_take_le L (k + 1)
      rw [total_take hlt] at htk
      have hjl := joined_length (L.take k)
      obtain ⟨⟨pd, ys⟩, hpe⟩ : ∃ p, p = L[k] := ⟨_, rfl⟩
      rw [← hpe] at hc0 hby hjt htk
      dsimp only at hc0 hby hjt htk
      obtain ⟨Ad, cd, rfl⟩ := hby.form
      obtain ⟨J, hJ⟩ : ∃ J, J = joined (L.take k) := ⟨_, rfl⟩
      rw [← hJ] at hjt hjl hsum
      obtain ⟨ws, rest, ht, hws, hrow⟩ := hsum
      have ADD := Lib.hid (add_any BI _ J ys ws rest _ w4 ht hws hrow (Src.of_byt hby (by have := hbel.size; have := HB0.out; omega) (by omega)) (by omega) hro.cube HOFF.out.cube)
      have HJT := Lib.hid hjt
      have hdk : (k : Int) < (L.length : Int) := by omega
      clear hc h4 h5 e0 hby hjt htk hjl hpe hJ ht hws hrow hrk hra hbel hro
      go_wp2_with (refine wpList_load_vrow rfl 93 (.tmp 3) rfl (g := BK) (t := 93) (vs := kRow) rfl RK4.out Tryd.underlying93 hIK.out ?_)
      refine ADD.out.mono ?_
      rintro e w5 ⟨rfl, ws5, rest5, t5, l5, r5, tt5⟩
      have HT5 := Lib.hid t5
      have HL5 := Lib.hid l5
      have HR5 := Lib.hid r5
      have HTT := Lib.hid tt5
      clear t5 l5 r5 tt5
      go_wp2_with fail
      refine ⟨⟨k + 1, by omega, by go_num, ?_, RK4.out.turns HTT.out (by omega), RA4.out.turns HTT.out (by omega), B4.out.trans (HTT.out.below_of (by omega) (by intro i hi h; omega)), Nat.lt_of_lt_of_le BI4.out HTT.out.size⟩, by simp [intOf]; omega⟩
      rw [HJT.out]
      exact ⟨ws5, rest5, HT5.out, HL5.out, HR5.out⟩
    · obtain rfl : k = L.length := by omega
      rw [List.take_length] at hsum
      obtain ⟨m, hm⟩ : ∃ m, m = joined L := ⟨_, rfl⟩
      have hml : m.length < 576460752303423488 := by rw [hm, joined_length]; exact hl
      rw [← hm] at hsum
      have HM := Lib.hid hm
      obtain ⟨ws, rest, ht, hws, hrow⟩ := hsum
      have zc : w4.cell? ⟨BI, 136, none⟩ = some (.int .u64 (m.length : Int)) := hrow.cell (inRow_size _ hws ht.size)
      have krg : w4.rangeAt BK 0 kRow := RK4.out.range (fun j v hv => by rw [Nat.zero_add]; exact hv)
      obtain ⟨z, hz⟩ : ∃ z, z = (239 - m.length % 128) % 128 + 8 := ⟨_, rfl⟩
      obtain ⟨n, hn⟩ : ∃ n, n = m.length := ⟨_, rfl⟩
      have hpl : (padB n).length = z + 9 := by
        have h := padI_length n z 8
        rw [hz, ← hn, padI_full, nums_length] at h
        rw [h, hz, hn]
      rw [← hn] at zc hz
      have HT := Lib.hid ht
      have HWS := Lib.hid hws
      have HROW := Lib.hid hrow
      have HZ := Lib.hid hz
      have HN := Lib.hid hn
      have HPL := Lib.hid hpl
      have HML := Lib.hid hml
      have hdk : ¬ (L.length : Int) < (L.length : Int) := by omega
      clear hm ht hws hrow hz hn hpl hml hrk hra hbel hro hlt
      go_upto_region 8 with fail
      refine wp_region_held_drew (S := (fun w' => w'.rangeAt BK 0 kRow)) (by kernel_rfl) ?_ (fun hHeld => ?_)
      · exact krg
      refine wpAnyH_take (i := 0) (oi := { dst := some 22, op := Go.Op.load 93 (Go.Operand.tmp 3), type := 93, pos := "sha512.go:14", after := #[], guard := none }) (v := Value.agg kRow.toArray) rfl (by kernel_rfl) (by kernel_rfl) (by kernel_rfl) (fun _ _ _ h => h) (yieldsIf_load_mid (by rfl) 93 (.tmp 3) rfl BK 0 rfl kRow _ (fun w' h => h) Tryd.underlying93 rfl hIK.out) (by assumption) ?_
      try simp only [Act.put, List.setIfInBounds_toArray, List.set_cons_zero, List.set_cons_succ]
      refine wpAnyH_take (i := 1) (oi := { dst := some 23, op := Go.Op.fieldAddr 95 (Go.Operand.tmp 4) 2, type := 0, pos := "sha512.go:14", after := #[], guard := none }) (v := ?av1) rfl (by kernel_rfl) (by kernel_rfl) (by kernel_rfl) (fun _ _ _ h => h) (Or.inl ⟨by rfl, ?ay1⟩) (by assumption) ?ar1
      case ay1 => (intro w hSw; (try dsimp only at hSw); go_simp; try (with_reducible rfl))
      case ar1 =>
      try simp only [Act.put, List.setIfInBounds_toArray, List.set_cons_zero, List.set_cons_succ]
      refine wpAnyH_ready (rs := [2]) (by kernel_rfl) (by simp) ?_
      refine AllReadyH.cons (o := { dst := some 24, op := Go.Op.load 57 (Go.Operand.tmp 23), type := 57, pos := "sha512.go:14", after := #[{ on := 1, ground := Go.Ground.data }], guard := none }) rfl (fun K hK => ?_) (AllReadyH.nil)
      go_simp
      refine hK.out _ _ ?_ (fun hHeld => ?_)
      · exact hHeld
      clear hK K
      try simp only [Act.put, List.setIfInBounds_toArray, List.set_cons_zero, List.set_cons_succ]
      refine wpAnyH_ready (rs := [3]) (by kernel_rfl) (by simp) ?_
      refine AllReadyH.cons (o := { dst := some 25, op := Go.Op.call { callee := Go.Callee.value (Go.Operand.func 44), args := #[Go.Operand.tmp 24, Go.Operand.const (Go.Value.int Go.IntKind.i64 128), Go.Operand.const (Go.Value.int Go.IntKind.i64 16)], argTypes := #[57, 3, 3] }, type := 22, pos := "sha512.go:14", after := #[{ on := 2, ground := Go.Ground.data }], guard := none }) rfl (fun K hK => ?_) (AllReadyH.nil)
      go_simp
      refine (padding_any n z w4.drew (by have := HML.out; have := HN.out; omega) (by have := HZ.out; exact this)).mono ?_
      rintro e w5 ⟨gp, rfl, hrow5, hb5, hge⟩
      go_simp
      have B5 := Lib.hid (show Below w4.heap.size w4 w5 from ⟨hb5.os, hb5.tape, hb5.output, hb5.size, hb5.block⟩)
      have PROW := Lib.hid hrow5
      have GE := Lib.hid (show w4.heap.size ≤ gp from hge)
      clear hb5 hrow5 hge
      refine hK.out _ _ ?_ (fun hHeld => ?_)
      · exact fun j v hv => (B5.out.cell (p := ⟨BK, 0 + j, none⟩) (by show BK < _; have := BI4.out; omega)).trans (krg j v hv)
      clear hK K
      try simp only [Act.put, List.setIfInBounds_toArray, List.set_cons_zero, List.set_cons_succ]
      refine wpAnyH_ready (rs := [4]) (by kernel_rfl) (by simp) ?_
      refine AllReadyH.cons (o := { dst := some 26, op := Go.Op.call { callee := Go.Callee.value (Go.Operand.func 43), args := #[Go.Operand.tmp 4, Go.Operand.tmp 22, Go.Operand.tmp 25], argTypes := #[95, 93, 22] }, type := 0, pos := "sha512.go:14", after := #[{ on := 0, ground := Go.Ground.data }, { on := 3, ground := Go.Ground.data }, { on := 3, ground := Go.Ground.chain }], guard := none }) rfl (fun K hK => ?_) (AllReadyH.nil)
      go_simp
      have SRC := pad_src PROW.out HZ.out (show BI ≠ gp by have := GE.out; have := BI4.out; omega)
      refine (add_any BI _ m (padB n) ws rest _ w5 HT.out HWS.out (HROW.out.below B5.out BI4.out) SRC (by rw [HPL.out]; have := HML.out; have := HZ.out; omega) (RO4.out.below B5.out).cube HOFF.out.cube).mono ?_
      rintro e w6 ⟨rfl, ws6, rest6, t6, l6, r6, tt6⟩
      go_simp
      refine hK.out _ _ ?_ (fun hHeld => ?_)
      · exact fun j v hv => (tt6.cell (p := ⟨BK, 0 + j, none⟩) (by show BK < _; have := BI4.out; have := B5.out.size; omega) (by show BK ≠ BI; omega)).trans ((B5.out.cell (p := ⟨BK, 0 + j, none⟩) (by show BK < _; have := BI4.out; omega)).trans (krg j v hv))
      clear hK K
      try simp only [Act.put, List.setIfInBounds_toArray, List.set_cons_zero, List.set_cons_succ]
      refine wpAnyH_done (by kernel_rfl) ?_ _
      have hsum6 : Took (full m) ws6 rest6 := by unfold full; rw [← HN.out]; exact t6
      have htt : Turns (· = BI) w4 w6 := (Turns.of_below (S := (· = BI)) B5.out).trans tt6 (fun _ _ h => h)
      have hra6 : IRow w6 B0 51 .u8 (List.replicate 64 0) := RA4.out.turns htt (by omega)
      have hb6 : Below B0 W0 w6 := B4.out.trans (htt.below_of (by have := BI4.out; omega) (by intro i hi h; omega))
      have hlt6 : BI < w6.heap.size := Nat.lt_of_lt_of_le BI4.out htt.size
      have hrow6 : VRow w6 BI 95 (inRow ws6 rest6 (full m).length) := by unfold full; rw [← HN.out]; exact r6
      have hw6 := hsum6.words (full_ne m)
      obtain ⟨s, hs⟩ : ∃ s, s = blocks512 (full m) ((full m).length / 128) := ⟨_, rfl⟩
      have hsha : sha512 m = outW s.list := by rw [hs]; rfl
      have hok : s.Ok := by rw [hs]; exact blocks512_ok _ _
      rw [← hs] at hw6
      subst hw6
      have rC := IRow.new w6 51 .u8 (List.replicate 64 0)
      have bC : Below w6.heap.size w6 (w6.alloc (.cells ((List.replicate 64 (0 : Int)).map (Value.int .u8)).toArray 51)) := (Below.refl _ w6).alloc (Nat.le_refl _) _
      have HRA := Lib.hid (show (w6.alloc (.cells ((List.replicate 64 (0 : Int)).map (Value.int .u8)).toArray 51)).rangeAt BI 0 [.int .u64 s.a, .int .u64 s.b, .int .u64 s.c, .int .u64 s.d, .int .u64 s.e, .int .u64 s.f, .int .u64 s.g, .int .u64 s.h] from (hrow6.below bC hlt6).range (by
        intro j x hx
        rw [Nat.zero_add]
        have hx2 : (s.list.map (Value.int .u64))[j]? = some x := hx
        rw [List.getElem?_map] at hx2
        cases hy : s.list[j]? with
        | none => rw [hy] at hx2; exact absurd hx2 (by simp)
        | some y =>
          rw [hy] at hx2
          obtain rfl : Value.int .u64 y = x := Option.some.inj hx2
          exact inRow_word _ hy))
      have RA7 := Lib.hid (hra6.below bC hra6.lt)
      have B7 := Lib.hid (hb6.trans (bC.mono (by have := BI4.out; omega)))
      have RC := Lib.hid rC
      have HSHA := Lib.hid hsha
      have HOK := Lib.hid hok
      have h20 := Lib.hid (show B0 < w6.heap.size by omega)
      clear hsum6 htt hra6 hb6 hlt6 hrow6 hs hsha hok rC bC t6 l6 r6 tt6 zc krg
      go_upto_region 10 with fail
      change Code.wp _ _ _ _ (w6.alloc (.cells ((List.replicate 64 (0 : Int)).map (Value.int .u8)).toArray 51))
      obtain ⟨w7, hw7⟩ : ∃ x, x = w6.alloc (.cells ((List.replicate 64 (0 : Int)).map (Value.int .u8)).toArray 51) := ⟨_, rfl⟩
      rw [← hw7] at HRA RA7 B7 RC ⊢
      obtain ⟨B9, hB9⟩ : ∃ B9, B9 = w6.heap.size := ⟨_, rfl⟩
      rw [← hB9] at RC h20 ⊢
      clear hw7 hB9
      try dsimp only [Act.put]
      go_wp2_with (refine wpList_load_mid rfl 90 (.tmp 27) rfl BI 0 rfl [.int .u64 s.a, .int .u64 s.b, .int .u64 s.c, .int .u64 s.d, .int .u64 s.e, .int .u64 s.f, .int .u64 s.g, .int .u64 s.h] _ HRA.out Tryd.underlying90 rfl info_8 ?_)
      go_loopw [29] (fun j wr => ∃ i : Nat, i ≤ 8 ∧ j = .int .i64 i ∧ IRow wr B9 51 .u8 (padZ 64 (nums (outW (s.list.take i)))) ∧ IRow wr B0 51 .u8 (List.replicate 64 0) ∧ Below B0 W0 wr) (fun j _ => 8 - (intOf j).toNat)
      case atStart => exact ⟨0, by omega, rfl, RC.out, RA7.out, B7.out⟩
      case round =>
        obtain ⟨i, hi, rfl, hrow, hres, hbel⟩ := hrel
        by_cases h8 : i < 8
        · obtain ⟨x, hx, hix⟩ := idx8 s.a s.b s.c s.d s.e s.f s.g s.h h8
          obtain ⟨p, hp⟩ : ∃ p, p = 8 * i := ⟨_, rfl⟩
          obtain ⟨q, hq⟩ : ∃ q, q = p + 4 := ⟨_, rfl⟩
          have ep : 8 * (i : Int) = (p : Int) := by omega
          have eq : (p : Int) + 4 = (q : Int) := by omega
          have hp56 : p ≤ 56 := by omega
          have i1 : (p : Int) ≤ 64 := by omega
          have i2 : ¬ 64 = p := by omega
          have i3 : (q : Int) ≤ 64 := by omega
          have i4 : ¬ 64 = q := by omega
          have b8 : (i : Int) < 8 := by omega
          have hxu : U64 x := S8.mem_ok HOK.out (List.mem_of_getElem? hx)
          obtain ⟨uh, ul⟩ := halves_u hxu
          obtain ⟨X, hX⟩ : ∃ X, X = x / 4294967296 := ⟨_, rfl⟩
          obtain ⟨Y, hY⟩ : ∃ Y, Y = x % 4294967296 := ⟨_, rfl⟩
          have wX : IntKind.u32.wrap (x / 4294967296) = X := by rw [u32_wrap, ← hX]; rw [← hX] at uh; obtain ⟨h0, h1⟩ := uh; omega
          have wY : IntKind.u32.wrap x = Y := by rw [u32_wrap, ← hY]
          have wX2 : x / 4294967296 % 4294967296 = X := by rw [← hX]; rw [← hX] at uh; obtain ⟨h0, h1⟩ := uh; omega
          rw [← hX] at uh
          rw [← hY] at ul
          have htl : (s.list.take i).length = i := by rw [List.length_take]; have : s.list.length = 8 := rfl; omega
          have hhl : (halves (s.list.take i)).length = 2 * i := by rw [halves_length, htl]
          have hol : (outB (halves (s.list.take i))).length = 8 * i := by rw [outB_length, hhl]; omega
          have hn1 := put4_next (m := 64) (ws := halves (s.list.take i)) (x := X) uh (by rw [hol]; omega)
          have hol2 : (outB (halves (s.list.take i) ++ [X])).length = 8 * i + 4 := by rw [outB_length, List.length_append, hhl]; simp; omega
          have hn2 := put4_next (m := 64) (ws := halves (s.list.take i) ++ [X]) (x := Y) ul (by rw [hol2]; omega)
          rw [hhl, show 4 * (2 * i) = p by omega] at hn1
          rw [show 4 * (halves (s.list.take i) ++ [X]).length = q by rw [List.length_append, hhl]; simp; omega] at hn2
          have htk : halves (s.list.take i) ++ [X] ++ [Y] = halves (s.list.take (i + 1)) := by
            rw [List.take_add_one]
            have hxl : s.list[i]? = some x := hx
            rw [hxl, halves_append, List.append_assoc, hX, hY]
            rfl
          rw [htk] at hn2
          have C := Lib.hid (put32_any B9 p (64 - p) (64 - p) _ _ X wr hrow (by omega) (by rw [padZ_length (by show (nums (outB (halves (s.list.take i)))).length ≤ 64; rw [nums_length, hol]; omega)]; omega))
          have hn1' : put4 (padZ 64 (nums (outW (s.list.take i)))) p X = padZ 64 (nums (outB (halves (s.list.take i) ++ [X]))) := hn1
          have HN1 := Lib.hid hn1'
          have HN2 := Lib.hid hn2
          have HOL2 := Lib.hid hol2
          have HRES := Lib.hid hres
          have HBEL := Lib.hid hbel
          clear hx hp hq htl hhl hol hol2 hn1 hn1' hn2 htk hrow hres hbel hX hY uh ul hxu
          go_wp2_with fail
          refine C.out.mono ?_
          rintro e w8 ⟨rfl, hr8, hb8⟩
          rw [HN1.out] at hr8
          have C2 := Lib.hid (put32_any B9 q (64 - q) (64 - q) _ _ Y w8 hr8 (by omega) (by rw [padZ_length (by rw [nums_length, HOL2.out]; omega)]; omega))
          have Q8 := Lib.hid (hb8 B9 (Nat.le_refl _))
          clear hr8 hb8
          go_wp2_with fail
          refine C2.out.mono ?_
          rintro e w9 ⟨rfl, hr9, hb9⟩
          rw [HN2.out] at hr9
          have R9 := Lib.hid hr9
          have Q9 := Lib.hid (Q8.out.trans (hb9 B9 (Nat.le_refl _)))
          clear hr9 hb9
          go_wp2_with fail
          exact ⟨⟨i + 1, by omega, by go_num, R9.out, HRES.out.below Q9.out h20.out, HBEL.out.trans (Q9.out.mono (by have := h20.out; omega))⟩, by simp [intOf]; omega⟩
        · obtain rfl : i = 8 := by omega
          have h8' : ((8 : Nat) : Int) = 8 := rfl
          rw [h8']
          have e8 : padZ 64 (nums (outW (s.list.take 8))) = nums (sha512 m) := by
            have e : s.list.take 8 = s.list := rfl
            rw [e, ← HSHA.out]
            exact padZ_full (by rw [nums_length, sha512_length])
          rw [e8] at hrow
          have hsz : (nums (sha512 m)).length = 64 := by rw [nums_length, sha512_length]
          have HI := Lib.hid (show (Tryd.prog.info? 51).map (·.size) = some (nums (sha512 m)).length by rw [hsz]; exact info_64)
          have HL := Lib.hid (show (List.replicate 64 (0 : Int)).length = (nums (sha512 m)).length by rw [hsz]; rfl)
          have HRW := Lib.hid hrow
          have HRS := Lib.hid hres
          have HFIN := Lib.hid (setRow_irow (ys := nums (sha512 m)) hres)
          have HBF := Lib.hid (below_setRow hbel (Nat.le_refl _) ((nums (sha512 m)).map (Value.int .u8)).toArray)
          clear h8' e8 hrow hres hbel hi h8 hsz
          go_wp2_with (first
            | (refine wpList_load_irow rfl 51 (.tmp 7) rfl (g := B9) (t := 51) (k := .u8) (xs := nums (sha512 m)) rfl HRW.out Tryd.underlying51 HI.out ?_)
            | (refine wpList_store_irow rfl 51 (.tmp 2) (.tmp 48) rfl (g := B0) (t := 51) (k := .u8) (xs := List.replicate 64 0) (ys := nums (sha512 m)) rfl rfl HRS.out HI.out HL.out ?_))
          refine bodyPost_ret (v := digV (sha512 m)) ?_ rfl ⟨by rw [HM.out], by rw [← HB0.out]; exact HBF.out⟩
          obtain ⟨fr, hrw⟩ : ∃ fr, ((wr.setRow B0 ((nums (sha512 m)).map (Value.int .u8)).toArray)).heap[B0]? = some (.cells ((nums (sha512 m)).map (Value.int .u8)).toArray 51 fr) := ⟨_, HFIN.out⟩
          exact results_cell_row Tryd.results29 _ _ B0 51 ((nums (sha512 m)).map (Value.int .u8)).toArray fr _ rfl hrw Tryd.underlying51 rfl (by rw [List.size_toArray, List.length_map]; exact HI.out)
end Go.Proofs.YtfkpdbmgiefnfaaDoor.S5

/-
  RIPEMD-160 on plain numbers, in the words of the walks. Conditions: none (plain mathematics).
-/
namespace Go.Proofs.YtfkpdbmgiefnfaaDoor.Rm
open Go.RowKit

structure S5 where
  a : Int
  b : Int
  c : Int
  d : Int
  e : Int
structure S5.Ok (s : S5) : Prop where
  a : U32 s.a
  b : U32 s.b
  c : U32 s.c
  d : U32 s.d
  e : U32 s.e
def S5.list (s : S5) : List Int := [s.a, s.b, s.c, s.d, s.e]
theorem S5.list_length (s : S5) : s.list.length = 5 := rfl
theorem S5.mem_ok {s : S5} (h : s.Ok) {x : Int} (hx : x ∈ [s.a, s.b, s.c, s.d, s.e]) : U32 x := by
  simp only [List.mem_cons, List.not_mem_nil, or_false] at hx
  rcases hx with rfl | rfl | rfl | rfl | rfl
  · exact h.a
  · exact h.b
  · exact h.c
  · exact h.d
  · exact h.e
/-- A round's way to mix. -/
def fR (r : Nat) (b c d : Int) : Int :=
  if r = 0 then bits .xor .u32 (bits .xor .u32 b c) d
  else if r = 1 then bits .or .u32 (bits .and .u32 b c) (bits .and .u32 (not32 b) d)
  else if r = 2 then bits .xor .u32 (bits .or .u32 b (not32 c)) d
  else if r = 3 then bits .or .u32 (bits .and .u32 b d) (bits .andNot .u32 c d)
  else bits .xor .u32 b (bits .or .u32 c (not32 d))
theorem fR_u (r : Nat) (b c d : Int) : U32 (fR r b c d) := by
  unfold fR
  split
  · exact bits32_u _ _ _
  · split
    · exact bits32_u _ _ _
    · split
      · exact bits32_u _ _ _
      · split
        · exact bits32_u _ _ _
        · exact bits32_u _ _ _
/-- A step of a line: the sum that is turned, then the step. -/
def sumR (r : Nat) (x k : Int) (v : S5) : Int := add32 (add32 (add32 v.a (fR r v.b v.c v.d)) x) k
def stepR (r : Nat) (x k : Int) (s : Nat) (v : S5) : S5 := ⟨v.e, add32 (rot32 s (sumR r x k v)) v.e, v.b, rot32 10 v.c, v.d⟩
theorem rot32_u (n : Nat) (x : Int) : U32 (rot32 n x) := bits32_u _ _ _
theorem stepR_ok (r : Nat) (x k : Int) (s : Nat) {v : S5} (h : v.Ok) : (stepR r x k s v).Ok := ⟨h.e, add32_u _ _, h.b, rot32_u _ _, h.d⟩
def ord1 : List Int := [0, 1, 2, 3, 4, 5, 6, 7, 8, 9, 10, 11, 12, 13, 14, 15, 7, 4, 13, 1, 10, 6, 15, 3, 12, 0, 9, 5, 2, 14, 11, 8, 3, 10, 14, 4, 9, 15, 8, 1, 2, 7, 0, 6, 13, 11, 5, 12, 1, 9, 11, 10, 0, 8, 12, 4, 13, 3, 7, 15, 14, 5, 6, 2, 4, 0, 5, 9, 7, 12, 2, 10, 14, 1, 3, 8, 11, 6, 15, 13]
def ord2 : List Int := [5, 14, 7, 0, 9, 2, 11, 4, 13, 6, 15, 8, 1, 10, 3, 12, 6, 11, 3, 7, 0, 13, 5, 10, 14, 15, 8, 12, 4, 9, 1, 2, 15, 5, 1, 3, 7, 14, 6, 9, 11, 8, 12, 2, 10, 0, 4, 13, 8, 6, 4, 1, 3, 11, 15, 0, 5, 12, 2, 13, 9, 7, 10, 14, 12, 15, 10, 4, 1, 5, 8, 7, 6, 2, 13, 14, 0, 3, 9, 11]
def turn1 : List Int := [11, 14, 15, 12, 5, 8, 7, 9, 11, 13, 14, 15, 6, 7, 9, 8, 7, 6, 8, 13, 11, 9, 7, 15, 7, 12, 15, 9, 11, 7, 13, 12, 11, 13, 6, 7, 14, 9, 13, 15, 14, 8, 13, 6, 5, 12, 7, 5, 11, 12, 14, 15, 14, 15, 9, 8, 9, 14, 5, 6, 8, 6, 5, 12, 9, 15, 5, 11, 6, 8, 13, 12, 5, 12, 13, 14, 11, 8, 5, 6]
def turn2 : List Int := [8, 9, 9, 11, 13, 15, 15, 5, 7, 7, 8, 11, 14, 14, 12, 6, 9, 13, 15, 7, 12, 8, 9, 11, 7, 7, 12, 7, 6, 15, 13, 11, 9, 7, 15, 11, 8, 6, 6, 14, 12, 13, 5, 14, 13, 13, 7, 5, 15, 5, 8, 11, 14, 14, 6, 14, 6, 9, 12, 9, 12, 5, 15, 8, 8, 5, 12, 9, 12, 5, 14, 6, 8, 13, 6, 5, 15, 13, 11, 11]
def add1 : List Int := [0, 0x5a827999, 0x6ed9eba1, 0x8f1bbcdc, 0xa953fd4e]
def add2 : List Int := [0x50a28be6, 0x5c4dd124, 0x6d703ef3, 0x7a6d76e9, 0]
def line1 (xs : List Int) : Nat → S5 → S5
  | 0, v => v
  | t + 1, v => stepR (t / 16) (xs.getD (ord1.getD t 0).toNat 0) (add1.getD (t / 16) 0) (turn1.getD t 0).toNat (line1 xs t v)
def line2 (xs : List Int) : Nat → S5 → S5
  | 0, v => v
  | t + 1, v => stepR (4 - t / 16) (xs.getD (ord2.getD t 0).toNat 0) (add2.getD (t / 16) 0) (turn2.getD t 0).toNat (line2 xs t v)
theorem line1_ok (xs : List Int) : ∀ (t : Nat) {v : S5}, v.Ok → (line1 xs t v).Ok
  | 0, _, h => h
  | t + 1, _, h => stepR_ok _ _ _ _ (line1_ok xs t h)
theorem line2_ok (xs : List Int) : ∀ (t : Nat) {v : S5}, v.Ok → (line2 xs t v).Ok
  | 0, _, h => h
  | t + 1, _, h => stepR_ok _ _ _ _ (line2_ok xs t h)
theorem nat_of {l : List Int} {t B : Nat} (ht : t < l.length) (h : ∀ x ∈ l, 0 ≤ x ∧ x < (B : Int)) : ∃ r : Nat, l[t]? = some (r : Int) ∧ l.getD t 0 = (r : Int) ∧ r < B := by
  obtain ⟨h0, h1⟩ := h _ (List.getElem_mem ht)
  refine ⟨l[t].toNat, ?_, ?_, by omega⟩
  · rw [List.getElem?_eq_getElem ht]; congr 1; omega
  · rw [List.getD_eq_getElem?_getD, List.getElem?_eq_getElem ht]; simp only [Option.getD_some]; omega
theorem ord1_at {t : Nat} (h : t < 80) : ∃ r : Nat, ord1[t]? = some (r : Int) ∧ ord1.getD t 0 = (r : Int) ∧ r < 16 := nat_of (B := 16) h (by decide)
theorem ord2_at {t : Nat} (h : t < 80) : ∃ r : Nat, ord2[t]? = some (r : Int) ∧ ord2.getD t 0 = (r : Int) ∧ r < 16 := nat_of (B := 16) h (by decide)
theorem turn1_at {t : Nat} (h : t < 80) : ∃ r : Nat, turn1[t]? = some (r : Int) ∧ turn1.getD t 0 = (r : Int) ∧ r < 16 := nat_of (B := 16) h (by decide)
theorem turn2_at {t : Nat} (h : t < 80) : ∃ r : Nat, turn2[t]? = some (r : Int) ∧ turn2.getD t 0 = (r : Int) ∧ r < 16 := nat_of (B := 16) h (by decide)
theorem add1_at {j : Nat} (h : j < 5) : ∃ k : Int, add1[j]? = some k ∧ add1.getD j 0 = k := ⟨add1[j]'h, List.getElem?_eq_getElem h, by rw [List.getD_eq_getElem?_getD, List.getElem?_eq_getElem (show j < add1.length from h)]; rfl⟩
theorem add2_at {j : Nat} (h : j < 5) : ∃ k : Int, add2[j]? = some k ∧ add2.getD j 0 = k := ⟨add2[j]'h, List.getElem?_eq_getElem h, by rw [List.getD_eq_getElem?_getD, List.getElem?_eq_getElem (show j < add2.length from h)]; rfl⟩

def wordR (bs : List UInt8) (t : Nat) : Int := be32 (bs.getD (4 * t + 3) 0) (bs.getD (4 * t + 2) 0) (bs.getD (4 * t + 1) 0) (bs.getD (4 * t) 0)
def wordsR (bs : List UInt8) (t : Nat) : List Int := (List.range t).map (wordR bs)
theorem wordsR_succ (bs : List UInt8) (t : Nat) : wordsR bs (t + 1) = wordsR bs t ++ [wordR bs t] := by simp [wordsR, List.range_succ]
theorem wordsR_length (bs : List UInt8) (t : Nat) : (wordsR bs t).length = t := by simp [wordsR]
/-- What both lines give. -/
def joinR (s p q : S5) : S5 := ⟨add32 (add32 s.b p.c) q.d, add32 (add32 s.c p.d) q.e, add32 (add32 s.d p.e) q.a, add32 (add32 s.e p.a) q.b, add32 (add32 s.a p.b) q.c⟩
theorem joinR_ok (s p q : S5) : (joinR s p q).Ok := ⟨add32_u _ _, add32_u _ _, add32_u _ _, add32_u _ _, add32_u _ _⟩
def compR (s : S5) (bs : List UInt8) : S5 := joinR s (line1 (wordsR bs 16) 80 s) (line2 (wordsR bs 16) 80 s)
def startR : S5 := ⟨0x67452301, 0xefcdab89, 0x98badcfe, 0x10325476, 0xc3d2e1f0⟩
theorem startR_ok : startR.Ok := ⟨by unfold U32; decide, by unfold U32; decide, by unfold U32; decide, by unfold U32; decide, by unfold U32; decide⟩
/-- Block by block. -/
def blocksR (m : List UInt8) : Nat → S5
  | 0 => startR
  | n + 1 => compR (blocksR m n) ((m.drop (64 * n)).take 64)
theorem blocksR_ok (m : List UInt8) : ∀ n, (blocksR m n).Ok
  | 0 => startR_ok
  | _ + 1 => joinR_ok _ _ _
theorem blocksR_more {m : List UInt8} (x : List UInt8) : ∀ n, 64 * n ≤ m.length → blocksR (m ++ x) n = blocksR m n
  | 0, _ => rfl
  | n + 1, h => by
    unfold blocksR
    rw [blocksR_more x n (by omega), List.drop_append_of_le_length (by omega), List.take_append_of_le_length (by rw [List.length_drop]; omega)]
/-- What closes a message of n bytes. -/
def padR (n : Nat) : List UInt8 := [128] ++ List.replicate ((119 - n % 64) % 64) 0 ++ (lenB n).reverse
theorem padR_length (n : Nat) : (padR n).length = (119 - n % 64) % 64 + 9 := by
  unfold padR lenB
  simp only [List.length_append, List.length_cons, List.length_nil, List.length_replicate, List.length_reverse, List.length_map, List.length_range]
  omega
def fullR (m : List UInt8) : List UInt8 := m ++ padR m.length
theorem fullR_blocks (m : List UInt8) : (fullR m).length % 64 = 0 := by
  unfold fullR
  rw [List.length_append, padR_length]
  omega
/-- A word with its bytes turned round. -/
def rev32 (x : Int) : Int := x % 256 * 16777216 + x / 256 % 256 * 65536 + x / 65536 % 256 * 256 + x / 16777216
theorem rev32_u {x : Int} (h : U32 x) : U32 (rev32 x) := by
  obtain ⟨h0, h1⟩ := h
  unfold rev32 U32
  omega
theorem rev_be (a b c d : UInt8) : rev32 (be32 a b c d) = be32 d c b a := by
  have h0 := a.toNat_lt
  have h1 := b.toNat_lt
  have h2 := c.toNat_lt
  have h3 := d.toNat_lt
  unfold rev32 be32
  omega
def outR (ws : List Int) : List UInt8 := outB (ws.map rev32)
def ripemd (m : List UInt8) : List UInt8 := outR (blocksR (fullR m) ((fullR m).length / 64)).list
theorem outR_length (ws : List Int) : (outR ws).length = 4 * ws.length := by
  unfold outR
  rw [outB_length, List.length_map]
theorem ripemd_length (m : List UInt8) : (ripemd m).length = 20 := by
  unfold ripemd
  rw [outR_length]
  rfl
end Go.Proofs.YtfkpdbmgiefnfaaDoor.Rm
