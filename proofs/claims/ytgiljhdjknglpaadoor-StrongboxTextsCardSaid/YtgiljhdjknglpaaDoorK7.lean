/-
  Texts joined: B5C, BcBech, BcSplit. Conditions: those of each.
-/
import Derived.Test.YtgiljhdjknglpaaDoorK6
import Derived.Lib.AppendZerosOnto
import Derived.Lib.AppendZeros
import Derived.Deep.CutBlock
import Derived.Deep.DeepCutAuto
import Derived.Deep.LoopGhost
import Derived.OwnWalk
/-
  slices.Concat of slices of bytes. Conditions: sizes within the reach.
-/
namespace Go.Proofs.YtgiljhdjknglpaaDoor
open Go.RowKit

def Fresh (w : World) (xs : List UInt8) (e : Ending) (w' : World) : Prop :=
  ∃ A c, e = .returned (.slice A xs.length c) ∧ w'.ownsRow w.heap.size 5 1 (.slice A xs.length c) xs.length (xs.map bv) ∧ Below w.heap.size w w'
theorem fresh_v {w w' : World} {xs : List UInt8} {e : Ending} (h : Fresh w xs e w') : ∃ v, e = .returned v ∧ OwnB w' w.heap.size v xs ∧ Below w.heap.size w w' := by
  obtain ⟨A, c, he, ho, hb⟩ := h
  exact ⟨_, he, ho, hb⟩
theorem byt_later {w : World} {B : Nat} {v : Value} {xs : List UInt8} (h : Byt w B v xs) (o : Obj) : Byt (w.alloc o) B v xs := by
  obtain ⟨A, c, hv, hl, hm, hA, hx⟩ := h
  refine ⟨A, c, hv, hl, hm, hA, fun hne => ?_⟩
  obtain ⟨b, o2, e, hb, hc⟩ := hx hne
  exact ⟨b, o2, e, hb, fun j u hu => cell_later ((Below.refl _ w).alloc (Nat.le_refl _) o) (hc j u hu)⟩
theorem fresh_of {w w' : World} {v : Value} {xs : List UInt8} (h : w'.ownsRow w.heap.size 5 1 v xs.length (xs.map bv)) (hb : Below w.heap.size w w') : Fresh w xs (.returned v) w' := by
  obtain ⟨A, c, rfl⟩ := own_form h
  exact ⟨A, c, rfl, h, hb⟩
theorem own_b {w : World} {base n : Nat} {v : Value} {ys zs : List UInt8} (h : w.ownsRow base 5 1 v n (ys.map bv ++ zs.map bv)) (hn : n = ys.length + zs.length) : OwnB w base v (ys ++ zs) := by
  subst hn
  unfold OwnB
  rw [List.length_append, List.map_append]
  exact h
theorem fresh_own {w w' : World} {v : Value} {xs : List UInt8} (h : OwnB w' w.heap.size v xs) (hb : Below w.heap.size w w') : Fresh w xs (.returned v) w' := fresh_of h hb
theorem grow_none (w : World) : Calls Tryd.prog 51 #[.slice none 0 0, .int .i64 0] w fun e w' => e = .returned (.slice none 0 0) ∧ w = w' := by
  go_enter Tryd.func51, Tryd.ntmps51
  go_wp2_with fail
  go_ret
  exact ⟨rfl, rfl⟩

set_option maxRecDepth 100000 in
set_option maxHeartbeats 1600000 in
theorem grow_some (n : Nat) (h0 : 0 < n) (hn : n ≤ 100000000) (w : World) :
    Calls Tryd.prog 51 #[.slice none 0 0, .int .i64 (n : Int)] w (Fresh w []) := by
  obtain ⟨i0, hi, hz0, hz1, hz2⟩ := info_parts info_u8
  obtain ⟨G, hG⟩ : ∃ G, G = grownCap w n 0 5 := ⟨_, rfl⟩
  have hrz : ∀ ty, (Builtin.append_ #[23, 3] ty #[.slice none 0 0, .int .i64 (n : Int)]).run Tryd.prog w =
      .ok (.slice (some ⟨w.heap.size, 0, none⟩) n G) (w.drew.alloc (.cells (#[] ++ Builtin.zeroCells (Value.int .u8 0).cells n ++ Builtin.zeroCells (Value.int .u8 0).cells (G - n)) 5)) := fun ty => by
    have h := Lib.run_append_grow_zeros (P := Tryd.prog) w 23 3 ty 5 i0 (.int .u8 0) .i64 .i64 slice_u8 Tryd.underlying3 hi hz0 none 0 0 [] (run_firstCells_none w.drew i0.size 0 0 0) n h0 (by rw [hz1]; decide) (by omega) (by omega)
      (by rw [hz2]; omega) (by rw [Nat.zero_add]; exact growslice_fits h0 (by rw [hz2]; omega))
    simp only [Nat.zero_add] at h
    rw [← hG] at h
    exact h
  have hGn : n ≤ G := by rw [hG]; exact grownCap_ge w _ _ _
  have hGm : G ≤ maxLen := by rw [hG]; exact grownCap_le_maxLen w _ _ _ (by unfold maxLen; omega)
  have hfr : Fresh w [] (.returned (.slice (some ⟨w.heap.size, 0, none⟩) 0 G)) (w.alloc (.cells (Builtin.zeroCells #[.int .u8 0] n ++ Builtin.zeroCells #[.int .u8 0] (G - n)) 5)).drew := by
    refine ⟨_, _, rfl, ?_, ?_⟩
    · have h := World.ownsRow_made (base := w.heap.size) (e := 5) (size := 1) w (Builtin.zeroCells #[.int .u8 0] n ++ Builtin.zeroCells #[.int .u8 0] (G - n)) G (Nat.le_refl _) hGm (by
        rw [Array.size_append, size_zeroCells, size_zeroCells]
        simp
        omega)
      exact h
    · exact (⟨rfl, rfl, rfl, by simp, fun k hk => Below.heap_alloc _ _ _ hk⟩ : Below w.heap.size w (w.alloc _).drew)
  have hG63 : G ≤ 9223372036854775807 := hGm
  have HF := Lib.hid hfr
  have hpos : (0 : Int) < n := by omega
  clear hfr hG hGm
  go_enter Tryd.func51, Tryd.ntmps51
  go_wp2_with (at_builtin; refine Lib.wpList_append_run _ rfl _ _ _ _ rfl _ _ rfl rfl _ _ (hrz _) ?_)
  go_ret
  exact HF.out

/-- The slice value v reads as these slices of bytes. -/
def BagR (w : World) (B : Nat) (v : Value) (L : List (Value × List UInt8)) : Prop :=
  (∃ A c, v = .slice A L.length c ∧ L.length ≤ c ∧ c ≤ maxLen ∧ (L ≠ [] → ∃ b o, A = some ⟨b, o, none⟩ ∧ b < B ∧ ∀ i p, L[i]? = some p → w.cell? ⟨b, o + i, none⟩ = some p.1)) ∧ ∀ p ∈ L, Byt w B p.1 p.2
theorem BagR.form {w : World} {B : Nat} {v : Value} {L : List (Value × List UInt8)} (h : BagR w B v L) : ∃ A c, v = .slice A L.length c := by
  obtain ⟨⟨A, c, hv, _⟩, _⟩ := h
  exact ⟨A, c, hv⟩
theorem BagR.len {w : World} {B : Nat} {v : Value} {L : List (Value × List UInt8)} (h : BagR w B v L) : L.length ≤ 9223372036854775807 := by
  obtain ⟨⟨A, c, hv, h1, h2, _⟩, _⟩ := h
  unfold maxLen at h2
  omega
theorem BagR.below {w w' : World} {B : Nat} {v : Value} {L : List (Value × List UInt8)} (h : BagR w B v L) (hb : Below B w w') : BagR w' B v L := by
  obtain ⟨⟨A, c, hv, h1, h2, h3⟩, h4⟩ := h
  refine ⟨⟨A, c, hv, h1, h2, fun hne => ?_⟩, fun p hp => (h4 p hp).below hb⟩
  obtain ⟨b, o, e, hb', hc⟩ := h3 hne
  exact ⟨b, o, e, hb', fun i p hp => (hb.cell (p := ⟨b, _, none⟩) hb').trans (hc i p hp)⟩
theorem BagR.more {w : World} {B B' : Nat} {v : Value} {L : List (Value × List UInt8)} (h : BagR w B v L) (hB : B ≤ B') : BagR w B' v L := by
  obtain ⟨⟨A, c, hv, h1, h2, h3⟩, h4⟩ := h
  refine ⟨⟨A, c, hv, h1, h2, fun hne => ?_⟩, fun p hp => (h4 p hp).more hB⟩
  obtain ⟨b, o, e, hb', hc⟩ := h3 hne
  exact ⟨b, o, e, by omega, hc⟩
/-- A new block of just these slices. -/
theorem BagR.made (w : World) (t : TypeId) (l : List Value) (L : List (Value × List UInt8)) (h : l = L.map (·.1)) (hl : L.length ≤ maxLen) (hb : ∀ p ∈ L, Byt w w.heap.size p.1 p.2) :
    BagR (w.alloc (.cells l.toArray t)) (w.heap.size + 1) (.slice (some ⟨w.heap.size, 0, none⟩) L.length L.length) L := by
  refine ⟨⟨_, _, rfl, Nat.le_refl _, hl, fun _ => ⟨_, _, rfl, by omega, fun i p hp => ?_⟩⟩, fun p hp => (byt_later (hb p hp) _).more (by omega)⟩
  rw [Nat.zero_add, cell_of_row _ w.heap.size i _ _ _ (heap_alloc_new w _), h]
  simp [hp]

def total (L : List (Value × List UInt8)) : Nat := (L.map (fun p => p.2.length)).sum
def joined (L : List (Value × List UInt8)) : List UInt8 := (L.map (·.2)).flatten
theorem total_take {L : List (Value × List UInt8)} {k : Nat} (h : k < L.length) : total (L.take (k + 1)) = total (L.take k) + L[k].2.length := by
  unfold total
  rw [List.take_succ_eq_append_getElem h]
  simp only [List.map_append, List.sum_append, List.map_cons, List.map_nil, List.sum_cons, List.sum_nil, Nat.add_zero]
theorem joined_take {L : List (Value × List UInt8)} {k : Nat} (h : k < L.length) : joined (L.take (k + 1)) = joined (L.take k) ++ L[k].2 := by
  unfold joined
  rw [List.take_succ_eq_append_getElem h]
  simp only [List.map_append, List.flatten_append, List.map_cons, List.map_nil, List.flatten_cons, List.flatten_nil, List.append_nil]
theorem joined_length (L : List (Value × List UInt8)) : (joined L).length = total L := by unfold joined total; simp [List.length_flatten, Function.comp_def]
theorem total_take_le (L : List (Value × List UInt8)) (k : Nat) : total (L.take k) ≤ total L := by
  have h : L = L.take k ++ L.drop k := (List.take_append_drop k L).symm
  have : total L = total (L.take k) + total (L.drop k) := by
    conv => lhs; rw [h]
    unfold total
    rw [List.map_append, List.sum_append]
  omega

set_option maxRecDepth 100000 in
set_option maxHeartbeats 3200000 in
theorem concat_any (B : Nat) (x : Value) (L : List (Value × List UInt8)) (w : World) (hx : BagR w B x L) (hB : B ≤ w.heap.size) (hl : total L ≤ 60000) :
    Calls Tryd.prog 30 #[x] w (Fresh w (joined L)) := by
  obtain ⟨i0, hi, hz0, hz1, hz2⟩ := info_parts info_u8
  have hlen := hx.len
  have HX := Lib.hid hx
  obtain ⟨A, c, rfl⟩ := hx.form
  clear hx
  go_enter Tryd.func30, Tryd.ntmps30
  go_wp2_with fail
  go_loop [3, 11] (fun s t => ∃ k : Nat, k ≤ L.length ∧ t = .int .i64 (k : Int) ∧ s = .int .i64 (total (L.take k) : Nat)) (fun _ t => L.length - (intOf t).toNat)
  case atStart => exact ⟨0, Nat.zero_le _, rfl, rfl⟩
  case round =>
    obtain ⟨k, hk, rfl, rfl⟩ := hrel
    by_cases hlt : k < L.length
    · obtain ⟨⟨A', c', e0, _, _, h4⟩, h5⟩ := HX.out
      obtain ⟨e1, e2, e3⟩ := Value.slice.inj e0
      subst e1 e3
      clear e2
      obtain ⟨b, o, rfl, hb, hc⟩ := h4 (by rintro rfl; simp at hlt)
      have hc0 := hc k _ (List.getElem?_eq_getElem hlt)
      obtain ⟨Ad, cd, hd⟩ := (h5 _ (List.getElem_mem hlt)).form
      have hts := total_take hlt
      have htl := total_take_le L (k + 1)
      rw [hd] at hc0
      obtain ⟨m, hm⟩ : ∃ m, m = L[k].2.length := ⟨_, rfl⟩
      rw [← hm] at hc0 hts
      obtain ⟨T, hT⟩ : ∃ T, T = total (L.take k) := ⟨_, rfl⟩
      rw [← hT] at hts ⊢
      have HTS := Lib.hid hts
      have hdk : decide (k < L.length) = true := decide_eq_true hlt
      have hbig : T + m ≤ 60000 := by omega
      have hng : decide ((T : Int) + (m : Int) < 0) = false := decide_eq_false (by omega)
      clear hc h4 h5 e0 hm hT hts htl hd
      go_wp2_with fail
      go_round
      case rel => exact ⟨k + 1, by omega, by go_num, by rw [HTS.out]; go_num⟩
      case measure => simp [intOf]; omega
    · obtain rfl : k = L.length := by omega
      rw [List.take_length]
      obtain ⟨T, hT⟩ : ∃ T, T = total L := ⟨_, rfl⟩
      rw [← hT] at hl ⊢
      have HT := Lib.hid hT
      clear hT
      have HG : Hid (Calls Tryd.prog 51 #[.slice none 0 0, .int .i64 (T : Int)] w (Fresh w [])) := Lib.hid (by
        rcases Nat.eq_zero_or_pos T with h | h
        · subst h
          exact (grow_none w).mono fun e w' ⟨he, hw⟩ => by subst hw; exact ⟨none, 0, he, World.ownsRow_nil _ _ _ _, Below.refl _ _⟩
        · exact grow_some T h (by omega) w)
      go_wp2_with fail
      refine HG.out.mono ?_
      intro e w1 hfr
      obtain ⟨v1, rfl, hown1, hb1⟩ := fresh_v hfr
      have HO1 := Lib.hid hown1
      have HB1 := Lib.hid hb1
      clear hfr hown1 hb1 HG
      go_wp2_with fail
      go_loopw [6, 27] (fun s t wr => ∃ (k : Nat) (v : Value), v = s ∧ k ≤ L.length ∧ t = .int .i64 (k : Int) ∧ Hid (OwnB wr w.heap.size v (joined (L.take k))) ∧ Hid (Below w.heap.size w wr)) (fun _ t _ => L.length - (intOf t).toNat)
      case atStart => exact ⟨0, _, rfl, Nat.zero_le _, rfl, HO1, HB1⟩
      case round =>
        obtain ⟨k, v, hv, hk, rfl, hown, hbel⟩ := hrel
        subst hv
        by_cases hlt : k < L.length
        · obtain ⟨⟨A', c', e0, _, _, h4⟩, h5⟩ := HX.out.below (hbel.out.mono hB)
          obtain ⟨e1, e2, e3⟩ := Value.slice.inj e0
          subst e1 e3
          clear e2
          obtain ⟨b, o, rfl, hb, hc⟩ := h4 (by rintro rfl; simp at hlt)
          have hc0 := hc k _ (List.getElem?_eq_getElem hlt)
          have hby := h5 _ (List.getElem_mem hlt)
          have hjt := joined_take hlt
          have htk := total_take_le L (k + 1)
          rw [total_take hlt, ← HT.out] at htk
          have hjl := joined_length (L.take k)
          obtain ⟨⟨pd, ys⟩, hpe⟩ : ∃ p, p = L[k] := ⟨_, rfl⟩
          rw [← hpe] at hc0 hby hjt htk
          dsimp only at hc0 hby hjt htk
          obtain ⟨Ad, cd, rfl⟩ := hby.form
          have HBY := Lib.hid hby
          have HJT := Lib.hid hjt
          have hbnd : (joined (L.take k)).length + ys.length ≤ 60000 := by omega
          have HBN := Lib.hid hbnd
          have hdk : decide (k < L.length) = true := decide_eq_true hlt
          clear hc h4 h5 e0 hby hjt htk hjl hpe hbnd
          go_wp2_with (at_builtin; refine wpList_append_bytes rfl (.tmp 31) (.tmp 32) 23 rfl w.heap.size 5 i0 slice_u8 hi hz0 hz1 hz2 _ _ _ rfl hown.out B _ ys rfl HBY.out (by have := HBN.out; omega) hbel.out.size ?_; intro v5 w5 hown5 hg5 hat5)
          have ho5 : OwnB w5 w.heap.size v5 (joined (L.take (k + 1))) := by rw [HJT.out]; exact own_b hown5 rfl
          have hb5 : Below w.heap.size w w5 := hbel.out.grown hg5 hbel.out.size (fun j hj => (World.ownsRow.lt hown.out j hj).1)
          have HO5 := Lib.hid ho5
          have HB5 := Lib.hid hb5
          clear hown5 hg5 hat5 ho5 hb5
          go_roundw
          case rel => exact ⟨k + 1, _, rfl, by omega, by go_num, HO5, HB5⟩
          case measure => simp [intOf]; omega
        · obtain rfl : k = L.length := by omega
          have ho := hown.out
          rw [List.take_length] at ho
          have HO := Lib.hid ho
          clear ho
          go_wp2_with fail
          go_ret
          exact fresh_own HO.out hbel.out
end Go.Proofs.YtgiljhdjknglpaaDoor

/-
  text.Bech32: a part for people, 1, values and their checksum. Conditions: the listed table holds what its text lays; sizes within the reach.
-/
namespace Go.Proofs.YtgiljhdjknglpaaDoor
open Go.RowKit

theorem str_app {a b : List UInt8} : (⟨a.toArray⟩ : ByteArray) ++ ⟨b.toArray⟩ = ⟨(a ++ b).toArray⟩ := by
  apply Go.WideShapes.bytes_inj
  simp
theorem str_of (s : ByteArray) {h : List UInt8} (e : h = s.data.toList) : s = ⟨h.toArray⟩ := Go.WideShapes.bytes_inj (by rw [e])
theorem vals_small {h d : List UInt8} {m : Bool} (hd : d.any wideB = false) : ∀ v ∈ d ++ closeB h d m, v.toNat < l32.size := fun v hv => by
  have e : l32.size = 32 := rfl
  rw [e]
  rcases List.mem_append.1 hv with h1 | h1
  · exact narrow hd v h1
  · exact closeB_small h d m v h1

set_option maxRecDepth 100000 in
set_option maxHeartbeats 3200000 in
theorem bech32_any (B : Nat) (s : ByteArray) (x : Value) (d : List UInt8) (m : Bool) (w : World) (hc : BechIs w) (hx : Byt w B x d) (hB : B ≤ w.heap.size) (hs : s.size ≤ 140737488355328) (hl : d.length ≤ 20000) :
    Calls Tryd.prog 19 #[.string s, x, .bool m] w fun e w' => e = .returned (.tuple #[.string ⟨(bechS s.data.toList d m).2.toArray⟩, .int .i64 (bechS s.data.toList d m).1]) ∧ Below w.heap.size w w' := by
  obtain ⟨A, cx, hxf⟩ := hx.form
  subst hxf
  have HX := Lib.hid hx
  have HC := Lib.hid hc
  have P := Lib.hid (part_any s w hs)
  have HS := Lib.hid hs
  obtain ⟨h, hh⟩ : ∃ h, h = s.data.toList := ⟨_, rfl⟩
  have hhs : h.length = s.size := by rw [hh]; rfl
  rw [← hh] at P ⊢
  have HH := Lib.hid hh
  have HHS := Lib.hid hhs
  obtain ⟨r, hr⟩ : ∃ r, r = bechS h d m := ⟨_, rfl⟩
  rw [← hr]
  by_cases h1 : 83 < h.length + d.length
  · have d1 : decide (90 < (s.size : Int) + 1 + (d.length : Int) + 6) = true := decide_eq_true (by omega)
    rw [bechS_size h1] at hr
    subst hr
    clear hx hc hh h1 hhs
    go_enter Tryd.func19, Tryd.ntmps19
    go_wp2_with fail
    go_ret2
    exact ⟨rfl, Below.refl _ _⟩
  · have d1 : decide (90 < (s.size : Int) + 1 + (d.length : Int) + 6) = false := decide_eq_false (by omega)
    have hh83 : h.length ≤ 83 := by omega
    cases hp : partOk h with
    | false =>
      rw [bechS_form h1 (.inl hp)] at hr
      subst hr
      rw [hp] at P
      clear hx hc hh h1 hhs hp
      go_enter Tryd.func19, Tryd.ntmps19
      go_wp2_with fail
      refine P.out.mono ?_
      rintro e w1 ⟨rfl, hb1⟩
      go_wp2_with fail
      go_ret2
      exact ⟨rfl, hb1⟩
    | true =>
      rw [hp] at P
      have K := Lib.hid (fun (W : World) (hb : Below w.heap.size w W) => contains_wide B _ d W (HX.out.below (hb.mono hB)) (Nat.le_trans hB hb.size))
      cases hd : d.any wideB with
      | true =>
        rw [bechS_form h1 (.inr hd)] at hr
        subst hr
        rw [hd] at K
        clear hx hc hh h1 hhs hp hd
        go_enter Tryd.func19, Tryd.ntmps19
        go_wp2_with fail
        refine P.out.mono ?_
        rintro e w1 ⟨rfl, hb1⟩
        have K1 := Lib.hid (K.out w1 hb1)
        go_wp2_with fail
        refine K1.out.mono ?_
        rintro e w2 ⟨rfl, rfl⟩
        go_wp2_with fail
        go_ret2
        exact ⟨rfl, hb1⟩
      | false =>
        rw [bechS_good h1 hp hd] at hr
        have HVS := Lib.hid (vals_small (h := h) (m := m) hd)
        have HR := Lib.hid hr
        rw [hd] at K
        have hcl := closeB_length h d m
        obtain ⟨L, hL⟩ : ∃ L, L = closeB h d m := ⟨_, rfl⟩
        rw [← hL] at hcl HVS HR
        have HL := Lib.hid hL
        have HCL := Lib.hid hcl
        clear hx hc hh h1 hhs hp hd hr hcl hL
        go_enter Tryd.func19, Tryd.ntmps19
        go_wp2_with fail
        refine P.out.mono ?_
        rintro e w1 ⟨rfl, hb1⟩
        have K1 := Lib.hid (K.out w1 hb1)
        have HB1 := Lib.hid hb1
        clear hb1
        go_wp2_with fail
        refine K1.out.mono ?_
        rintro e w2 ⟨rfl, rfl⟩
        have hs1 := HB1.out.size
        have S := sum32_any B s _ d m w1 (HC.out.below HB1.out HC.out.1) (HX.out.below (HB1.out.mono hB)) (by omega) (by have := HHS.out; omega) (by omega)
        rw [← HH.out, ← HL.out] at S
        have HSUM := Lib.hid S
        clear S K1
        go_wp2_with fail
        refine HSUM.out.mono ?_
        rintro e w2 ⟨g, rfl, hg, hrow, hb2⟩
        have hs2 := hb2.size
        have hby := hrow.byt (n := 6) (c := 6) (by rw [HCL.out]; omega) (by omega) (by unfold maxLen; omega)
        rw [List.take_of_length_le (by rw [HCL.out]; omega)] at hby
        have HB2 := Lib.hid (HB1.out.trans (hb2.mono hs1))
        have hbag := BagR.made w2 23 [.slice A d.length cx, .slice (some ⟨g, 0, none⟩) 6 6] [(.slice A d.length cx, d), (.slice (some ⟨g, 0, none⟩) 6 6, L)] rfl (by unfold maxLen; simp) (by
          intro p hp
          simp only [List.mem_cons, List.not_mem_nil, or_false] at hp
          rcases hp with rfl | rfl
          · exact (HX.out.below (HB2.out.mono hB)).more (Nat.le_trans hB HB2.out.size)
          · exact hby)
        have hj : joined [((.slice A d.length cx : Value), d), (.slice (some ⟨g, 0, none⟩) 6 6, L)] = d ++ L := by unfold joined; simp
        have C2 := concat_any (w2.heap.size + 1) _ _ (w2.alloc (.cells #[.slice A d.length cx, .slice (some ⟨g, 0, none⟩) 6 6] 23)) hbag (by simp) (by rw [← joined_length, hj, List.length_append, HCL.out]; omega)
        rw [hj] at C2
        have HC2 := Lib.hid C2
        have HB2' := Lib.hid (HB2.out.alloc HB2.out.size (.cells #[.slice A d.length cx, .slice (some ⟨g, 0, none⟩) 6 6] 23))
        obtain ⟨V, hV⟩ : ∃ V, V = d ++ L := ⟨_, rfl⟩
        have hVl : V.length = d.length + 6 := by rw [hV, List.length_append, HCL.out]
        rw [← hV] at HC2 HVS HR
        have HVL := Lib.hid hVl
        clear hVl
        clear hbag hj C2 hby hb2 hrow hV HSUM
        go_wp2_with fail
        refine HC2.out.mono ?_
        intro e w3 hfr
        obtain ⟨v3, rfl, hown3, hb3⟩ := fresh_v hfr
        have HB3 := Lib.hid (HB2'.out.trans (hb3.mono (by have := HB2'.out.size; simpa using this)))
        have C3 := Lib.hid (spell_any w3.heap.size v3 V l32 w3 (Byt.of_own hown3) (Nat.le_refl _) (by have := HVL.out; omega) HVS.out)
        obtain ⟨A3, c3, rfl⟩ := hown3.form
        clear hfr hown3 hb3
        go_wp2_with fail
        refine C3.out.mono ?_
        rintro e w4 ⟨rfl, hb4⟩
        have HB4 := Lib.hid (HB3.out.trans (hb4.mono HB3.out.size))
        have hss : s.size ≤ 83 := by have := HHS.out; omega
        obtain ⟨Z, hZ⟩ : ∃ Z : ByteArray, Z = ⟨(letters l32 V).toArray⟩ := ⟨_, rfl⟩
        have hZs : Z.size ≤ 20006 := by rw [hZ]; show (letters l32 V).toArray.size ≤ 20006; rw [List.size_toArray, letters_length]; have := HVL.out; omega
        rw [← hZ]
        have HZ := Lib.hid hZ
        obtain ⟨Y, hY⟩ : ∃ Y : ByteArray, Y = s ++ ⟨#[49]⟩ := ⟨_, rfl⟩
        have hYs : Y.size ≤ 84 := by rw [hY, ByteArray.size_append]; show s.size + 1 ≤ 84; omega
        have HY := Lib.hid hY
        rw [← hY]
        clear hb4 hZ C3 hY hs hss HS
        go_wp2_with fail
        go_ret2
        refine ⟨?_, HB4.out⟩
        rw [HR.out]
        have e1 : Y ++ Z = ⟨(h ++ [49] ++ letters l32 V).toArray⟩ := by
          rw [HY.out, HZ.out, str_of s HH.out]
          show (⟨h.toArray⟩ : ByteArray) ++ ⟨[49].toArray⟩ ++ _ = _
          rw [str_app, str_app]
        rw [← e1]
        rfl
end Go.Proofs.YtgiljhdjknglpaaDoor

/-
  text.split: the part ahead of the last 1, and the values behind it. Conditions: sizes within the reach.
-/
namespace Go.Proofs.YtgiljhdjknglpaaDoor
open Go.RowKit

def SplitPost (w : World) (cs : List UInt8) (e : Ending) (w' : World) : Prop :=
  Below w.heap.size w w' ∧ (splitOk cs = true ∧ (∃ v, e = .returned (.tuple #[.string ⟨(headS cs).toArray⟩, v, .bool true]) ∧ Byt w' w'.heap.size v (valsS cs)) ∨
    splitOk cs = false ∧ e = .returned (.tuple #[.string ⟨#[]⟩, .slice none 0 0, .bool false]))
theorem splitOk_eq (cs : List UInt8) (p : Bool) (hp : cs.all okB = p) : splitOk cs = (p && (!(cs.any Lib.isUpperB && cs.any Lib.isLowerB) && (decide (1 ≤ oneAt (lowS cs)) && (decide (6 ≤ (tailS cs).length) && (tailS cs).all knownB)))) := by
  unfold splitOk; rw [hp]
theorem upto_list (s : ByteArray) (k : Nat) : (s.extract 0 k).data.toList = s.data.toList.take k := by
  rw [ByteArray.data_extract, Array.toList_extract]
  simp [List.extract]

set_option maxRecDepth 100000 in
set_option maxHeartbeats 6400000 in
theorem split_any (s : ByteArray) (w : World) (hs : s.size ≤ 60000) :
    Calls Tryd.prog 22 #[.string s] w (SplitPost w s.data.toList) := by
  have P := Lib.hid (printable_any s w (by omega))
  obtain ⟨h, hh⟩ : ∃ h, h = s.data.toList := ⟨_, rfl⟩
  have hhs : h.length = s.size := by rw [hh]; rfl
  cases hp : h.all okB with
  | false =>
    rw [← hh, hp] at P
    have hr := splitOk_eq h _ hp
    rw [Bool.false_and] at hr
    rw [← hh]
    have HR := Lib.hid hr
    clear hh hhs hp hr
    go_enter Tryd.func22, Tryd.ntmps22
    go_wp2_with fail
    refine P.out.mono ?_
    rintro e w1 ⟨rfl, rfl⟩
    go_wp2_with fail
    go_ret3
    exact ⟨Below.refl _ _, .inr ⟨HR.out, rfl⟩⟩
  | true =>
    rw [← hh, hp] at P
    have hr := splitOk_eq h _ hp
    rw [Bool.true_and] at hr
    have hasc := ok_ascii hp
    have C := Tryd.strings_ToLower_ascii s w (by omega) (by rw [← hh]; exact hasc)
    have U := fun W => Tryd.strings_ToUpper_ascii s W (by omega) (by rw [← hh]; exact hasc)
    have e1 : Lib.toLowerA s.data.toList = lowS h := by rw [← hh]; rfl
    have e2 : Lib.toUpperA s.data.toList = h.map Lib.upperB := by rw [← hh]; rfl
    rw [e1] at C
    simp only [e2] at U
    obtain ⟨low, hlow⟩ : ∃ low : ByteArray, low = ⟨(lowS h).toArray⟩ := ⟨_, rfl⟩
    obtain ⟨up, hup⟩ : ∃ up : ByteArray, up = ⟨(h.map Lib.upperB).toArray⟩ := ⟨_, rfl⟩
    have z1 : (s.toList == low.toList) = !h.any Lib.isUpperB := by rw [hlow, toL_mk, toL, ← hh, low_same]
    have z2 : (s.toList == up.toList) = !h.any Lib.isLowerB := by rw [hup, toL_mk, toL, ← hh, up_same]
    have hls : low.size = s.size := by rw [hlow]; show (lowS h).toArray.size = _; rw [List.size_toArray, lowS_length, hhs]
    have hone : Lib.lastIndexByte low 49 = oneAt (lowS h) := by rw [hlow]; rfl
    have hld : low.data.toList = lowS h := by rw [hlow]
    rw [← hlow] at C
    simp only [← hup] at U
    have LI := fun W => Tryd.strings_LastIndexByte low 49 (by omega) W
    simp only [hone] at LI
    rw [← hh]
    have HC := Lib.hid C
    have HU := Lib.hid U
    have HLI := Lib.hid LI
    have HLD := Lib.hid hld
    have HLS := Lib.hid hls
    have hs' := hs
    cases ha : h.any Lib.isUpperB with
    | false =>
      rw [ha] at z1 hr
      rw [Bool.false_and, Bool.not_false, Bool.true_and] at hr
      have HR := Lib.hid hr
      clear hh hhs hp hr hasc C U e1 e2 hlow hup hls hone hld LI z2 ha HU
      go_enter Tryd.func22, Tryd.ntmps22
      go_wp2_with fail
      refine P.out.mono ?_
      rintro e w1 ⟨rfl, rfl⟩
      go_wp2_with fail
      refine HC.out.mono ?_
      rintro e w2 ⟨rfl, hb2⟩
      go_wp2_with fail
      have HB := Lib.hid hb2
      clear hb2
      refine (HLI.out _).mono ?_
      rintro e w4 ⟨rfl, rfl⟩
      by_cases h1 : oneAt (lowS h) < 1
      · have hf : splitOk h = false := by rw [HR.out, decide_eq_false (by omega)]; rfl
        have HF := Lib.hid hf
        have d1 : decide (oneAt (lowS h) < 1) = true := decide_eq_true h1
        clear hf h1
        go_wp2_with fail
        go_ret3
        exact ⟨HB.out, .inr ⟨HF.out, rfl⟩⟩
      · have h1' : 1 ≤ oneAt (lowS h) := by omega
        obtain ⟨i, hi, hi49, _⟩ : ∃ i : Nat, oneAt (lowS h) = i ∧ (lowS h)[i]? = some 49 ∧ True := by
          rcases oneAt_spec (lowS h) with ⟨e, _⟩ | ⟨i, e, h2, _⟩
          · omega
          · exact ⟨i, e, h2, trivial⟩
        have hil := (List.getElem?_eq_some_iff.1 hi49).1
        have hsz : low.size = (lowS h).length := by show low.data.size = _; rw [← Array.length_toList, HLD.out]
        have hiz : i < low.size := by omega
        have hhead : headS h = (lowS h).take i := by unfold headS; rw [hi, Int.toNat_natCast]
        have htail : tailS h = (lowS h).drop (i + 1) := by unfold tailS; rw [hi, Int.toNat_natCast]
        have hE : (low.extract (i + 1) low.size).data.toList = tailS h := by rw [htail, ← HLD.out]; exact Lib.extract_to_end low (i + 1)
        have hH : low.extract 0 i = ⟨(headS h).toArray⟩ := str_of _ (by rw [upto_list, HLD.out, hhead])
        obtain ⟨E, hEE⟩ : ∃ E, E = low.extract (i + 1) low.size := ⟨_, rfl⟩
        rw [← hEE] at hE
        have hEs : E.size = (tailS h).length := by show E.data.size = _; rw [← Array.length_toList, hE]
        have hEl : E.size ≤ 60000 := by rw [hEs, htail, List.length_drop]; have := HLS.out; omega
        have PL := places_any E l32 w4 hEl (by decide)
        rw [hE] at PL
        have HPL := Lib.hid PL
        have hr2 : splitOk h = (decide (6 ≤ (tailS h).length) && (tailS h).all knownB) := by rw [HR.out, decide_eq_true h1']; rfl
        have HR2 := Lib.hid hr2
        have d1 : decide ((i : Int) < 1) = false := decide_eq_false (by omega)
        have hls60 : low.size ≤ 60000 := by have := HLS.out; omega
        have hi60 : i < 60000 := by omega
        have hi1 : (i : Int) + 1 ≤ (low.size : Int) := by omega
        have hi2 : (i : Int) ≤ (low.size : Int) := by omega
        have HH := Lib.hid hH
        obtain ⟨n, hn⟩ : ∃ n, n = (tailS h).length := ⟨_, rfl⟩
        have hn60 : n ≤ 60000 := by rw [hn, ← hEs]; exact hEl
        have HN := Lib.hid hn
        rw [hi]
        clear h1 h1' hi hi49 hil hsz hhead htail hE hH hEs hEl PL hr2 hn
        go_wp2_with fail
        rw [← hEE]
        clear hEE
        refine HPL.out.mono ?_
        rintro e w5 ⟨hb5, ⟨hall, rfl, hrow⟩ | ⟨⟨c, hcm, hneg⟩, rfl⟩⟩
        · have hk : (tailS h).all knownB = true := by
            rw [List.all_eq_true]
            intro c hc
            unfold knownB
            exact decide_eq_true (hall c hc)
          have HB5 := Lib.hid (HB.out.trans (hb5.mono HB.out.size))
          have hby := hrow.byt (n := n) (c := n) (by rw [placesB_length, HN.out]; omega) (by omega) (by unfold maxLen; omega)
          rw [List.take_of_length_le (by rw [placesB_length, HN.out]; omega)] at hby
          have HBY := Lib.hid hby
          have hr3 := HR2.out
          rw [hk, Bool.and_true, ← HN.out] at hr3
          have HR3 := Lib.hid hr3
          rw [← HN.out]
          clear hk hall hrow hb5 hby hr3
          by_cases h6 : n < 6
          · have d6 : decide ((n : Int) < 6) = true := decide_eq_true (by omega)
            have hf : splitOk h = false := by rw [HR3.out, decide_eq_false (by omega)]
            have HF := Lib.hid hf
            clear hf h6
            go_wp2_with fail
            go_ret3
            exact ⟨HB5.out, .inr ⟨HF.out, rfl⟩⟩
          · have d6 : decide ((n : Int) < 6) = false := decide_eq_false (by omega)
            have hf : splitOk h = true := by rw [HR3.out, decide_eq_true (by omega)]
            have HF := Lib.hid hf
            clear hf h6
            go_wp2_with fail
            go_ret3
            exact ⟨HB5.out, .inl ⟨HF.out, _, by rw [← HH.out]; rfl, HBY.out⟩⟩
        · have hf : splitOk h = false := by
            rw [HR2.out]
            have : (tailS h).all knownB = false := by
              rw [List.all_eq_false]
              exact ⟨c, hcm, by unfold knownB; rw [decide_eq_false (by omega)]; simp⟩
            rw [this, Bool.and_false]
          have HF := Lib.hid hf
          have HB5 := Lib.hid (HB.out.trans (hb5.mono HB.out.size))
          clear hf hb5 hcm hneg
          go_wp2_with fail
          go_ret3
          exact ⟨HB5.out, .inr ⟨HF.out, rfl⟩⟩
    | true =>
      cases hb : h.any Lib.isLowerB with
      | true =>
        rw [ha] at z1
        rw [hb] at z2
        rw [ha, hb, Bool.true_and, Bool.not_true, Bool.false_and] at hr
        have HR := Lib.hid hr
        clear hh hhs hp hr hasc C U e1 e2 hlow hup hls hone hld LI ha hb
        go_enter Tryd.func22, Tryd.ntmps22
        go_wp2_with fail
        refine P.out.mono ?_
        rintro e w1 ⟨rfl, rfl⟩
        go_wp2_with fail
        refine HC.out.mono ?_
        rintro e w2 ⟨rfl, hb2⟩
        go_wp2_with fail
        refine (HU.out _).mono ?_
        rintro e w3 ⟨rfl, hb3⟩
        have HB := Lib.hid (hb2.trans (hb3.mono hb2.size))
        go_wp2_with fail
        go_ret3
        exact ⟨HB.out, .inr ⟨HR.out, rfl⟩⟩
      | false =>
        rw [ha] at z1
        rw [hb] at z2
        rw [ha, hb, Bool.true_and, Bool.not_false, Bool.true_and] at hr
        have HR := Lib.hid hr
        clear hh hhs hp hr hasc C U e1 e2 hlow hup hls hone hld LI ha hb
        go_enter Tryd.func22, Tryd.ntmps22
        go_wp2_with fail
        refine P.out.mono ?_
        rintro e w1 ⟨rfl, rfl⟩
        go_wp2_with fail
        refine HC.out.mono ?_
        rintro e w2 ⟨rfl, hb2⟩
        go_wp2_with fail
        refine (HU.out _).mono ?_
        rintro e w3 ⟨rfl, hb3⟩
        have HB := Lib.hid (hb2.trans (hb3.mono hb2.size))
        clear hb2 hb3
        go_wp2_with fail
        refine (HLI.out _).mono ?_
        rintro e w4 ⟨rfl, rfl⟩
        by_cases h1 : oneAt (lowS h) < 1
        · have hf : splitOk h = false := by rw [HR.out, decide_eq_false (by omega)]; rfl
          have HF := Lib.hid hf
          have d1 : decide (oneAt (lowS h) < 1) = true := decide_eq_true h1
          clear hf h1
          go_wp2_with fail
          go_ret3
          exact ⟨HB.out, .inr ⟨HF.out, rfl⟩⟩
        · have h1' : 1 ≤ oneAt (lowS h) := by omega
          obtain ⟨i, hi, hi49, _⟩ : ∃ i : Nat, oneAt (lowS h) = i ∧ (lowS h)[i]? = some 49 ∧ True := by
            rcases oneAt_spec (lowS h) with ⟨e, _⟩ | ⟨i, e, h2, _⟩
            · omega
            · exact ⟨i, e, h2, trivial⟩
          have hil := (List.getElem?_eq_some_iff.1 hi49).1
          have hsz : low.size = (lowS h).length := by show low.data.size = _; rw [← Array.length_toList, HLD.out]
          have hiz : i < low.size := by omega
          have hhead : headS h = (lowS h).take i := by unfold headS; rw [hi, Int.toNat_natCast]
          have htail : tailS h = (lowS h).drop (i + 1) := by unfold tailS; rw [hi, Int.toNat_natCast]
          have hE : (low.extract (i + 1) low.size).data.toList = tailS h := by rw [htail, ← HLD.out]; exact Lib.extract_to_end low (i + 1)
          have hH : low.extract 0 i = ⟨(headS h).toArray⟩ := str_of _ (by rw [upto_list, HLD.out, hhead])
          obtain ⟨E, hEE⟩ : ∃ E, E = low.extract (i + 1) low.size := ⟨_, rfl⟩
          rw [← hEE] at hE
          have hEs : E.size = (tailS h).length := by show E.data.size = _; rw [← Array.length_toList, hE]
          have hEl : E.size ≤ 60000 := by rw [hEs, htail, List.length_drop]; have := HLS.out; omega
          have PL := places_any E l32 w4 hEl (by decide)
          rw [hE] at PL
          have HPL := Lib.hid PL
          have hr2 : splitOk h = (decide (6 ≤ (tailS h).length) && (tailS h).all knownB) := by rw [HR.out, decide_eq_true h1']; rfl
          have HR2 := Lib.hid hr2
          have d1 : decide ((i : Int) < 1) = false := decide_eq_false (by omega)
          have hls60 : low.size ≤ 60000 := by have := HLS.out; omega
          have hi60 : i < 60000 := by omega
          have hi1 : (i : Int) + 1 ≤ (low.size : Int) := by omega
          have hi2 : (i : Int) ≤ (low.size : Int) := by omega
          have HH := Lib.hid hH
          obtain ⟨n, hn⟩ : ∃ n, n = (tailS h).length := ⟨_, rfl⟩
          have hn60 : n ≤ 60000 := by rw [hn, ← hEs]; exact hEl
          have HN := Lib.hid hn
          rw [hi]
          clear h1 h1' hi hi49 hil hsz hhead htail hE hH hEs hEl PL hr2 hn
          go_wp2_with fail
          rw [← hEE]
          clear hEE
          refine HPL.out.mono ?_
          rintro e w5 ⟨hb5, ⟨hall, rfl, hrow⟩ | ⟨⟨c, hcm, hneg⟩, rfl⟩⟩
          · have hk : (tailS h).all knownB = true := by
              rw [List.all_eq_true]
              intro c hc
              unfold knownB
              exact decide_eq_true (hall c hc)
            have HB5 := Lib.hid (HB.out.trans (hb5.mono HB.out.size))
            have hby := hrow.byt (n := n) (c := n) (by rw [placesB_length, HN.out]; omega) (by omega) (by unfold maxLen; omega)
            rw [List.take_of_length_le (by rw [placesB_length, HN.out]; omega)] at hby
            have HBY := Lib.hid hby
            have hr3 := HR2.out
            rw [hk, Bool.and_true, ← HN.out] at hr3
            have HR3 := Lib.hid hr3
            rw [← HN.out]
            clear hk hall hrow hb5 hby hr3
            by_cases h6 : n < 6
            · have d6 : decide ((n : Int) < 6) = true := decide_eq_true (by omega)
              have hf : splitOk h = false := by rw [HR3.out, decide_eq_false (by omega)]
              have HF := Lib.hid hf
              clear hf h6
              go_wp2_with fail
              go_ret3
              exact ⟨HB5.out, .inr ⟨HF.out, rfl⟩⟩
            · have d6 : decide ((n : Int) < 6) = false := decide_eq_false (by omega)
              have hf : splitOk h = true := by rw [HR3.out, decide_eq_true (by omega)]
              have HF := Lib.hid hf
              clear hf h6
              go_wp2_with fail
              go_ret3
              exact ⟨HB5.out, .inl ⟨HF.out, _, by rw [← HH.out]; rfl, HBY.out⟩⟩
          · have hf : splitOk h = false := by
              rw [HR2.out]
              have : (tailS h).all knownB = false := by
                rw [List.all_eq_false]
                exact ⟨c, hcm, by unfold knownB; rw [decide_eq_false (by omega)]; simp⟩
              rw [this, Bool.and_false]
            have HF := Lib.hid hf
            have HB5 := Lib.hid (HB.out.trans (hb5.mono HB.out.size))
            clear hf hb5 hcm hneg
            go_wp2_with fail
            go_ret3
            exact ⟨HB5.out, .inr ⟨HF.out, rfl⟩⟩
end Go.Proofs.YtgiljhdjknglpaaDoor
