/-
  Texts joined: SnRpushes, SnCat, SnPay. Conditions: those of each.
-/
import Derived.Test.YtocblkacdoahfaaGreatDoorJ11
import Derived.Lib.AppendZerosOnto
import Derived.Lib.AppendZeros
/-
  The reference's Pushes of layer 11. Conditions: sizes within the reach.
-/
namespace Go.Proofs.YtocblkacdoahfaaGreatDoor.Sn
open Go.RowKit

/-- Parse's answer and the reference's, said without a case. -/
theorem parsed_both {w w' : World} {xs : List UInt8} {e : Ending} (h : Parsed w xs e w') : ∃ A c L k, e = .returned (.tuple #[.slice A L.length c, .int .i64 k]) ∧ OpsAt w' w.heap.size (.slice A L.length c) L ∧ Below w.heap.size w w' ∧
    ((k = 4 ∧ parseP xs = none ∧ L = []) ∨ (k = 0 ∧ parseP xs = some (L.map Piece.pair))) := by
  unfold Parsed at h
  cases hp : parseP xs with
  | none =>
    rw [hp] at h
    obtain ⟨he, hb⟩ := h
    exact ⟨none, 0, [], 4, he, OpsAt.nil _ _, hb, .inl ⟨rfl, rfl, rfl⟩⟩
  | some ops =>
    rw [hp] at h
    obtain ⟨A, c, L, he, hL, ho, hb⟩ := h
    subst hL
    rw [List.length_map] at he ho
    exact ⟨A, c, L, 0, he, ho, hb, .inr ⟨rfl, rfl⟩⟩
theorem xor255_fin : ∀ n : Fin 256, bits .xor .u8 (n.val : Int) 255 = ((255 - n.val : Nat) : Int) := by decide +kernel
theorem xor255 (x : UInt8) : bits .xor .u8 (x.toNat : Int) 255 = ((255 - x.toNat : Nat) : Int) := xor255_fin ⟨x.toNat, x.toNat_lt⟩
end Go.Proofs.YtocblkacdoahfaaGreatDoor.Sn

/-
  slices.Grow of nothing, slices.Concat of slices of bytes. Conditions: sizes within the reach.
-/
namespace Go.Proofs.YtocblkacdoahfaaGreatDoor.Sn
open Go.RowKit

theorem grow_none (w : World) : Calls Tryz.prog 50 #[.slice none 0 0, .int .i64 0] w fun e w' => e = .returned (.slice none 0 0) ∧ w = w' := by
  go_enter Tryz.func50, Tryz.ntmps50
  go_wp2_with fail
  go_ret
  exact ⟨rfl, rfl⟩

set_option maxRecDepth 100000 in
set_option maxHeartbeats 1600000 in
theorem grow_some (n : Nat) (h0 : 0 < n) (hn : n ≤ 100000000) (w : World) :
    Calls Tryz.prog 50 #[.slice none 0 0, .int .i64 (n : Int)] w (Fresh w []) := by
  obtain ⟨i0, hi, hz0, hz1, hz2⟩ := info_parts info_u8
  obtain ⟨G, hG⟩ : ∃ G, G = grownCap w n 0 5 := ⟨_, rfl⟩
  have hrz : ∀ ty, (Builtin.append_ #[23, 3] ty #[.slice none 0 0, .int .i64 (n : Int)]).run Tryz.prog w =
      .ok (.slice (some ⟨w.heap.size, 0, none⟩) n G) (w.drew.alloc (.cells (#[] ++ Builtin.zeroCells (Value.int .u8 0).cells n ++ Builtin.zeroCells (Value.int .u8 0).cells (G - n)) 5)) := fun ty => by
    have h := Lib.run_append_grow_zeros (P := Tryz.prog) w 23 3 ty 5 i0 (.int .u8 0) .i64 .i64 slice_u8 Tryz.underlying3 hi hz0 none 0 0 [] (run_firstCells_none w.drew i0.size 0 0 0) n h0 (by rw [hz1]; decide) (by omega) (by omega)
      (by rw [hz2]; omega) (by rw [Nat.zero_add]; exact growslice_fits h0 (by rw [hz2]; omega))
    simp only [Nat.zero_add] at h
    rw [← hG] at h
    exact h
  have hGn : n ≤ G := by rw [hG]; exact grownCap_ge w _ _ _
  have hGm : G ≤ maxLen := by rw [hG]; exact grownCap_le_maxLen w _ _ _ (by unfold maxLen; omega)
  have hfr : Fresh w [] (.returned (.slice (some ⟨w.heap.size, 0, none⟩) 0 G)) (w.alloc (.cells (Builtin.zeroCells #[.int .u8 0] n ++ Builtin.zeroCells #[.int .u8 0] (G - n)) 5)).drew := by
    refine ⟨_, _, rfl, ?_, ?_⟩
    · have h := World.ownsRow_made (base := w.heap.size) (e := 5) (size := 1) w (Builtin.zeroCells #[.int .u8 0] n ++ Builtin.zeroCells #[.int .u8 0] (G - n)) G (Nat.le_refl _) hGm (by
        rw [Array.size_append, size_zeroCells, size_zeroCells]
        simp
        omega)
      exact h
    · exact (⟨rfl, rfl, rfl, by simp, fun k hk => Below.heap_alloc _ _ _ hk⟩ : Below w.heap.size w (w.alloc _).drew)
  have hG63 : G ≤ 9223372036854775807 := hGm
  have HF := Lib.hid hfr
  have hpos : (0 : Int) < n := by omega
  clear hfr hG hGm
  go_enter Tryz.func50, Tryz.ntmps50
  go_wp2_with (at_builtin; refine Lib.wpList_append_run _ rfl _ _ _ _ rfl _ _ rfl rfl _ _ (hrz _) ?_)
  go_ret
  exact HF.out

/-- The slice value v reads as these slices of bytes. -/
def BagR (w : World) (B : Nat) (v : Value) (L : List (Value × List UInt8)) : Prop :=
  (∃ A c, v = .slice A L.length c ∧ L.length ≤ c ∧ c ≤ maxLen ∧ (L ≠ [] → ∃ b o, A = some ⟨b, o, none⟩ ∧ b < B ∧ ∀ i p, L[i]? = some p → w.cell? ⟨b, o + i, none⟩ = some p.1)) ∧ ∀ p ∈ L, Byt w B p.1 p.2
theorem BagR.form {w : World} {B : Nat} {v : Value} {L : List (Value × List UInt8)} (h : BagR w B v L) : ∃ A c, v = .slice A L.length c := by
  obtain ⟨⟨A, c, hv, _⟩, _⟩ := h
  exact ⟨A, c, hv⟩
theorem BagR.len {w : World} {B : Nat} {v : Value} {L : List (Value × List UInt8)} (h : BagR w B v L) : L.length ≤ 9223372036854775807 := by
  obtain ⟨⟨A, c, hv, h1, h2, _⟩, _⟩ := h
  unfold maxLen at h2
  omega
theorem BagR.below {w w' : World} {B : Nat} {v : Value} {L : List (Value × List UInt8)} (h : BagR w B v L) (hb : Below B w w') : BagR w' B v L := by
  obtain ⟨⟨A, c, hv, h1, h2, h3⟩, h4⟩ := h
  refine ⟨⟨A, c, hv, h1, h2, fun hne => ?_⟩, fun p hp => (h4 p hp).below hb⟩
  obtain ⟨b, o, e, hb', hc⟩ := h3 hne
  exact ⟨b, o, e, hb', fun i p hp => (hb.cell (p := ⟨b, _, none⟩) hb').trans (hc i p hp)⟩
theorem BagR.more {w : World} {B B' : Nat} {v : Value} {L : List (Value × List UInt8)} (h : BagR w B v L) (hB : B ≤ B') : BagR w B' v L := by
  obtain ⟨⟨A, c, hv, h1, h2, h3⟩, h4⟩ := h
  refine ⟨⟨A, c, hv, h1, h2, fun hne => ?_⟩, fun p hp => (h4 p hp).more hB⟩
  obtain ⟨b, o, e, hb', hc⟩ := h3 hne
  exact ⟨b, o, e, by omega, hc⟩
/-- A new block of just these slices. -/
theorem BagR.made (w : World) (t : TypeId) (l : List Value) (L : List (Value × List UInt8)) (h : l = L.map (·.1)) (hl : L.length ≤ maxLen) (hb : ∀ p ∈ L, Byt w w.heap.size p.1 p.2) :
    BagR (w.alloc (.cells l.toArray t)) (w.heap.size + 1) (.slice (some ⟨w.heap.size, 0, none⟩) L.length L.length) L := by
  refine ⟨⟨_, _, rfl, Nat.le_refl _, hl, fun _ => ⟨_, _, rfl, by omega, fun i p hp => ?_⟩⟩, fun p hp => (byt_later (hb p hp) _).more (by omega)⟩
  rw [Nat.zero_add, cell_of_row _ w.heap.size i _ _ _ (heap_alloc_new w _), h]
  simp [hp]

def total (L : List (Value × List UInt8)) : Nat := (L.map (fun p => p.2.length)).sum
def joined (L : List (Value × List UInt8)) : List UInt8 := (L.map (·.2)).flatten
theorem total_take {L : List (Value × List UInt8)} {k : Nat} (h : k < L.length) : total (L.take (k + 1)) = total (L.take k) + L[k].2.length := by
  unfold total
  rw [List.take_succ_eq_append_getElem h]
  simp only [List.map_append, List.sum_append, List.map_cons, List.map_nil, List.sum_cons, List.sum_nil, Nat.add_zero]
theorem joined_take {L : List (Value × List UInt8)} {k : Nat} (h : k < L.length) : joined (L.take (k + 1)) = joined (L.take k) ++ L[k].2 := by
  unfold joined
  rw [List.take_succ_eq_append_getElem h]
  simp only [List.map_append, List.flatten_append, List.map_cons, List.map_nil, List.flatten_cons, List.flatten_nil, List.append_nil]
theorem joined_length (L : List (Value × List UInt8)) : (joined L).length = total L := by unfold joined total; simp [List.length_flatten, Function.comp_def]
theorem total_take_le (L : List (Value × List UInt8)) (k : Nat) : total (L.take k) ≤ total L := by
  have h : L = L.take k ++ L.drop k := (List.take_append_drop k L).symm
  have : total L = total (L.take k) + total (L.drop k) := by
    conv => lhs; rw [h]
    unfold total
    rw [List.map_append, List.sum_append]
  omega

set_option maxRecDepth 100000 in
set_option maxHeartbeats 3200000 in
theorem concat_any (B : Nat) (x : Value) (L : List (Value × List UInt8)) (w : World) (hx : BagR w B x L) (hB : B ≤ w.heap.size) (hl : total L ≤ 60000000) :
    Calls Tryz.prog 26 #[x] w (Fresh w (joined L)) := by
  obtain ⟨i0, hi, hz0, hz1, hz2⟩ := info_parts info_u8
  have hlen := hx.len
  have HX := Lib.hid hx
  obtain ⟨A, c, rfl⟩ := hx.form
  clear hx
  go_enter Tryz.func26, Tryz.ntmps26
  go_wp2_with fail
  go_loop [3, 11] (fun s t => ∃ k : Nat, k ≤ L.length ∧ t = .int .i64 (k : Int) ∧ s = .int .i64 (total (L.take k) : Nat)) (fun _ t => L.length - (intOf t).toNat)
  case atStart => exact ⟨0, Nat.zero_le _, rfl, rfl⟩
  case round =>
    obtain ⟨k, hk, rfl, rfl⟩ := hrel
    by_cases hlt : k < L.length
    · obtain ⟨⟨A', c', e0, _, _, h4⟩, h5⟩ := HX.out
      obtain ⟨e1, e2, e3⟩ := Value.slice.inj e0
      subst e1 e3
      clear e2
      obtain ⟨b, o, rfl, hb, hc⟩ := h4 (by rintro rfl; simp at hlt)
      have hc0 := hc k _ (List.getElem?_eq_getElem hlt)
      obtain ⟨Ad, cd, hd⟩ := (h5 _ (List.getElem_mem hlt)).form
      have hts := total_take hlt
      have htl := total_take_le L (k + 1)
      rw [hd] at hc0
      obtain ⟨m, hm⟩ : ∃ m, m = L[k].2.length := ⟨_, rfl⟩
      rw [← hm] at hc0 hts
      obtain ⟨T, hT⟩ : ∃ T, T = total (L.take k) := ⟨_, rfl⟩
      rw [← hT] at hts ⊢
      have HTS := Lib.hid hts
      have hdk : decide (k < L.length) = true := decide_eq_true hlt
      have hbig : T + m ≤ 60000000 := by omega
      have hng : decide ((T : Int) + (m : Int) < 0) = false := decide_eq_false (by omega)
      clear hc h4 h5 e0 hm hT hts htl hd
      go_wp2_with fail
      go_round
      case rel => exact ⟨k + 1, by omega, by go_num, by rw [HTS.out]; go_num⟩
      case measure => simp [intOf]; omega
    · obtain rfl : k = L.length := by omega
      rw [List.take_length]
      obtain ⟨T, hT⟩ : ∃ T, T = total L := ⟨_, rfl⟩
      rw [← hT] at hl ⊢
      have HT := Lib.hid hT
      clear hT
      have HG : Hid (Calls Tryz.prog 50 #[.slice none 0 0, .int .i64 (T : Int)] w (Fresh w [])) := Lib.hid (by
        rcases Nat.eq_zero_or_pos T with h | h
        · subst h
          exact (grow_none w).mono fun e w' ⟨he, hw⟩ => by subst hw; exact ⟨none, 0, he, World.ownsRow_nil _ _ _ _, Below.refl _ _⟩
        · exact grow_some T h (by omega) w)
      go_wp2_with fail
      refine HG.out.mono ?_
      intro e w1 hfr
      obtain ⟨v1, rfl, hown1, hb1⟩ := fresh_v hfr
      have HO1 := Lib.hid hown1
      have HB1 := Lib.hid hb1
      clear hfr hown1 hb1 HG
      go_wp2_with fail
      go_loopw [6, 27] (fun s t wr => ∃ (k : Nat) (v : Value), v = s ∧ k ≤ L.length ∧ t = .int .i64 (k : Int) ∧ Hid (OwnB wr w.heap.size v (joined (L.take k))) ∧ Hid (Below w.heap.size w wr)) (fun _ t _ => L.length - (intOf t).toNat)
      case atStart => exact ⟨0, _, rfl, Nat.zero_le _, rfl, HO1, HB1⟩
      case round =>
        obtain ⟨k, v, hv, hk, rfl, hown, hbel⟩ := hrel
        subst hv
        by_cases hlt : k < L.length
        · obtain ⟨⟨A', c', e0, _, _, h4⟩, h5⟩ := HX.out.below (hbel.out.mono hB)
          obtain ⟨e1, e2, e3⟩ := Value.slice.inj e0
          subst e1 e3
          clear e2
          obtain ⟨b, o, rfl, hb, hc⟩ := h4 (by rintro rfl; simp at hlt)
          have hc0 := hc k _ (List.getElem?_eq_getElem hlt)
          have hby := h5 _ (List.getElem_mem hlt)
          have hjt := joined_take hlt
          have htk := total_take_le L (k + 1)
          rw [total_take hlt, ← HT.out] at htk
          have hjl := joined_length (L.take k)
          obtain ⟨⟨pd, ys⟩, hpe⟩ : ∃ p, p = L[k] := ⟨_, rfl⟩
          rw [← hpe] at hc0 hby hjt htk
          dsimp only at hc0 hby hjt htk
          obtain ⟨Ad, cd, rfl⟩ := hby.form
          have HBY := Lib.hid hby
          have HJT := Lib.hid hjt
          have hbnd : (joined (L.take k)).length + ys.length ≤ 60000000 := by omega
          have HBN := Lib.hid hbnd
          have hdk : decide (k < L.length) = true := decide_eq_true hlt
          clear hc h4 h5 e0 hby hjt htk hjl hpe hbnd
          go_wp2_with (at_builtin; refine wpList_append_bytes rfl (.tmp 31) (.tmp 32) 23 rfl w.heap.size 5 i0 slice_u8 hi hz0 hz1 hz2 _ _ _ rfl hown.out B _ ys rfl HBY.out (by have := HBN.out; omega) hbel.out.size ?_; intro v5 w5 hown5 hg5 hat5)
          have ho5 : OwnB w5 w.heap.size v5 (joined (L.take (k + 1))) := by rw [HJT.out]; exact own_b hown5 rfl
          have hb5 : Below w.heap.size w w5 := hbel.out.grown hg5 hbel.out.size (fun j hj => (World.ownsRow.lt hown.out j hj).1)
          have HO5 := Lib.hid ho5
          have HB5 := Lib.hid hb5
          clear hown5 hg5 hat5 ho5 hb5
          go_roundw
          case rel => exact ⟨k + 1, _, rfl, by omega, by go_num, HO5, HB5⟩
          case measure => simp [intOf]; omega
        · obtain rfl : k = L.length := by omega
          have ho := hown.out
          rw [List.take_length] at ho
          have HO := Lib.hid ho
          clear ho
          go_wp2_with fail
          go_ret
          exact fresh_own HO.out hbel.out
end Go.Proofs.YtocblkacdoahfaaGreatDoor.Sn

/-
  PayKey and PayScript, of the program and of the reference. Conditions: a digest of twenty bytes.
-/
namespace Go.Proofs.YtocblkacdoahfaaGreatDoor.Sn
open Go.RowKit

theorem push_twenty {hs : List UInt8} (h : hs.length = 20) : pushB hs = 20 :: hs := by
  match hs, h with
  | a :: b :: t, h =>
    have : aloneB (a :: b :: t) = none := rfl
    unfold pushB
    rw [this, h]
    rfl
def keyForm (hs : List UInt8) : List UInt8 := [118, 169, 20] ++ hs ++ [136, 172]
def scriptForm (hs : List UInt8) : List UInt8 := [169, 20] ++ hs ++ [135]

set_option maxRecDepth 100000 in
set_option maxHeartbeats 3200000 in
theorem payScript_any (hs : List UInt8) (h : hs.length = 20) (w : World) :
    Calls Tryz.prog 16 #[.agg (hs.map bv).toArray] w (Fresh w (scriptForm hs)) := by
  obtain ⟨cs, hcs⟩ : ∃ cs, cs = (hs.map bv).toArray := ⟨_, rfl⟩
  have hsz : cs.size = 20 := by rw [hcs]; simp [h]
  have h0 : Byt (w.alloc (.cells cs 41)) (w.heap.size + 1) (.slice (some ⟨w.heap.size, 0, none⟩) 20 20) hs := by
    have := Byt.made w 41 (hs.map bv) hs rfl (by unfold maxLen; omega)
    rw [← hcs, h] at this
    exact this
  have H0 := Lib.hid h0
  rw [← hcs]
  have HP := Lib.hid (push_twenty h)
  have HH := Lib.hid h
  clear hcs h0 h
  go_enter Tryz.func16, Tryz.ntmps16
  go_wp2_with fail
  refine (push_any (w.heap.size + 1) _ hs _ (byt_later H0.out _) (by simp) (by rw [HH.out]; decide)).mono ?_
  rw [HP.out]
  intro e w2 hfr
  obtain ⟨u2, rfl, hown2, hb2⟩ := fresh_v hfr
  obtain ⟨A2, c2, rfl⟩ := hown2.form
  have m1 : Byt ((w.alloc (.cells cs 41)).alloc (.cells #[.int .u8 169] 5)) (w.heap.size + 1 + 1) (.slice (some ⟨w.heap.size + 1, 0, none⟩) 1 1) [169] := by
    have := Byt.made (w.alloc (.cells cs 41)) 5 [.int .u8 169] [169] rfl (by unfold maxLen; simp)
    rw [World.size_alloc] at this
    exact this
  have s1 : w.heap.size + 1 + 1 ≤ w2.heap.size := by have := hb2.size; simp at this; omega
  have B2 : Below w.heap.size w w2 := (((Below.refl _ w).alloc (Nat.le_refl _) (.cells cs 41)).alloc (by simp) (.cells #[.int .u8 169] 5)).trans (hb2.mono (by simp; omega))
  have y1 : Byt (w2.alloc (.cells #[.int .u8 135] 5)) (w2.alloc (.cells #[.int .u8 135] 5)).heap.size (.slice (some ⟨w.heap.size + 1, 0, none⟩) 1 1) [169] := (byt_later (m1.below (hb2.mono (by simp))) _).more (by simp; omega)
  have y2 : Byt (w2.alloc (.cells #[.int .u8 135] 5)) (w2.alloc (.cells #[.int .u8 135] 5)).heap.size (.slice A2 (20 :: hs).length c2) (20 :: hs) := (byt_later (Byt.of_own hown2) _).more (by simp)
  have y3 : Byt (w2.alloc (.cells #[.int .u8 135] 5)) (w2.alloc (.cells #[.int .u8 135] 5)).heap.size (.slice (some ⟨w2.heap.size, 0, none⟩) 1 1) [135] := (Byt.made w2 5 [.int .u8 135] [135] rfl (by unfold maxLen; simp)).more (by simp)
  have bag := BagR.made (w2.alloc (.cells #[.int .u8 135] 5)) 23 [.slice (some ⟨w.heap.size + 1, 0, none⟩) 1 1, .slice A2 (20 :: hs).length c2, .slice (some ⟨w2.heap.size, 0, none⟩) 1 1]
    [(.slice (some ⟨w.heap.size + 1, 0, none⟩) 1 1, [169]), (.slice A2 (20 :: hs).length c2, 20 :: hs), (.slice (some ⟨w2.heap.size, 0, none⟩) 1 1, [135])] rfl (by unfold maxLen; simp)
    (by intro p hp; simp only [List.mem_cons, List.not_mem_nil, or_false] at hp; rcases hp with rfl | rfl | rfl; exact y1; exact y2; exact y3)
  rw [World.size_alloc] at bag
  have BAG := Lib.hid bag
  have BB := Lib.hid B2
  clear m1 y1 y2 y3 bag B2 hfr hown2 hb2 s1
  have hlen : (20 :: hs).length = 21 := by rw [List.length_cons, HH.out]
  rw [hlen] at BAG ⊢
  clear hlen
  go_wp2_with fail
  refine (concat_any _ _ _ _ BAG.out (by simp) (by unfold total; simp; have := HH.out; omega)).mono ?_
  intro e w3 hfr
  obtain ⟨u3, rfl, hown3, hb3⟩ := fresh_v hfr
  have HO3 := Lib.hid hown3
  have HB3 := Lib.hid ((((BB.out.alloc BB.out.size (.cells #[.int .u8 135] 5)).alloc (by have := BB.out.size; simp; omega) (.cells #[.slice (some ⟨w.heap.size + 1, 0, none⟩) 1 1, .slice A2 21 c2, .slice (some ⟨w2.heap.size, 0, none⟩) 1 1] 23))).trans (hb3.mono (by have := BB.out.size; simp; omega)))
  clear hfr hown3 hb3
  go_wp2_with fail
  go_ret
  have e3 : joined [((.slice (some ⟨w.heap.size + 1, 0, none⟩) 1 1 : Value), [169]), (.slice A2 21 c2, 20 :: hs), (.slice (some ⟨w2.heap.size, 0, none⟩) 1 1, [135])] = scriptForm hs := by
    unfold joined scriptForm
    simp
  have HO := HO3.out
  rw [e3] at HO
  exact fresh_own (own_base HO (by have := BB.out.size; simp; omega)) HB3.out

end Go.Proofs.YtocblkacdoahfaaGreatDoor.Sn
