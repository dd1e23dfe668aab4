/-
  Texts joined: SnMulti, SnMparts, SnKindM, SnProgA, SnKindP, SnMown. Conditions: those of each.
-/
import Derived.Test.YtpfobbhoahnebaaJ8
/-
  script.multi: are operations of the form of many keys. Conditions: none.
-/
namespace Go.Proofs.Ytpfobbhoahnebaa
open Go.RowKit

def multiB (cs : List UInt8) : Bool :=
  if cs.length < 4 then false
  else (cs.getD (cs.length - 1) 0 == 174) && decide (smallB (cs.getD (cs.length - 2) 0) = (cs.length : Int) - 3) && decide (1 ≤ smallB (cs.getD 0 0)) && decide (smallB (cs.getD 0 0) ≤ (cs.length : Int) - 3) && !((cs.drop 1).take (cs.length - 3)).any (· != 33)
theorem code_at {L : List Piece} {i : Nat} {p : Piece} (h : L[i]? = some p) : (L.map Piece.code).getD i 0 = p.code := by
  rw [List.getD, List.getElem?_map, h]
  rfl
theorem ops_drop {w : World} {B N c o b : Nat} {L : List Piece} (h : OpsR w B (.slice (some ⟨b, o, none⟩) L.length c) L) (hl : L.length = N + 3) : OpsR w B (.slice (some ⟨b, o + 2, none⟩) N (c - 1)) ((L.drop 1).take N) := by
  obtain ⟨A', c', e, h1, h2, h3⟩ := h
  obtain ⟨e1, _, e3⟩ := Value.slice.inj e
  subst e1 e3
  obtain ⟨b', o', e', hb, hc⟩ := h3 (by rintro rfl; simp at hl)
  injection e' with e'
  obtain ⟨e1', e2', _⟩ := Addr.mk.inj e'
  subst e1' e2'
  have hlen : ((L.drop 1).take N).length = N := by simp; omega
  refine ⟨_, _, by rw [hlen], by rw [hlen]; omega, by omega, fun _ => ⟨b, o + 2, rfl, hb, fun i p hp => ?_⟩⟩
  rw [List.getElem?_take] at hp
  split at hp
  · rw [List.getElem?_drop] at hp
    have := hc (1 + i) p hp
    rw [show o + 2 + i * 2 = o + (1 + i) * 2 by omega]
    exact this
  · cases hp

set_option maxRecDepth 100000 in
set_option maxHeartbeats 6400000 in
theorem multi_any (B : Nat) (x : Value) (L : List Piece) (w : World) (hx : OpsR w B x L) (hB : B ≤ w.heap.size) (hl : L.length ≤ 60000000) :
    Calls Try.prog 64 #[x] w fun e w' => e = .returned (.bool (multiB (L.map Piece.code))) ∧ Below w.heap.size w w' := by
  obtain ⟨A, c, rfl⟩ := hx.form
  by_cases h4 : L.length < 4
  · have hM : multiB (L.map Piece.code) = false := by unfold multiB; rw [List.length_map, if_pos h4]
    rw [hM]
    have hw : IntKind.i64.wrap ((L.length : Int) - 3) = (L.length : Int) - 3 := IntWalk.i64_in _ (by omega)
    have hd : decide ((L.length : Int) - 3 < 1) = true := decide_eq_true (by omega)
    clear hx hM h4
    go_enter Try.func64, Try.ntmps64
    go_wp2_with fail
    go_ret
    exact ⟨rfl, Below.refl _ _⟩
  obtain ⟨N, hN⟩ : ∃ N, L.length = N + 3 := ⟨L.length - 3, by omega⟩
  obtain ⟨p0, hp0⟩ : ∃ p, L[0]? = some p := ⟨_, List.getElem?_eq_getElem (by omega)⟩
  obtain ⟨p1, hp1⟩ : ∃ p, L[N + 1]? = some p := ⟨_, List.getElem?_eq_getElem (by omega)⟩
  obtain ⟨p2, hp2⟩ : ∃ p, L[N + 2]? = some p := ⟨_, List.getElem?_eq_getElem (by omega)⟩
  have hM : multiB (L.map Piece.code) = ((p2.code == 174) && decide (smallB p1.code = (N : Int)) && decide (1 ≤ smallB p0.code) && decide (smallB p0.code ≤ (N : Int)) && !((L.drop 1).take N).any (fun p => p.code != 33)) := by
    unfold multiB
    rw [List.length_map, if_neg h4, hN, show N + 3 - 1 = N + 2 by omega, show N + 3 - 2 = N + 1 by omega, show N + 3 - 3 = N by omega, code_at hp0, code_at hp1, code_at hp2, show ((N + 3 : Nat) : Int) - 3 = (N : Int) by omega, ← List.map_drop, ← List.map_take, List.any_map]
    rfl
  obtain ⟨A', c', e, h1, h2, h3⟩ := hx
  obtain ⟨e1, _, e3⟩ := Value.slice.inj e
  subst e1 e3
  obtain ⟨b, o, rfl, hb, hc⟩ := h3 (by rintro rfl; simp at hN)
  have q0 : w.cell? ⟨b, o, none⟩ = some (.int .u8 (p0.code.toNat : Int)) := (hc 0 _ hp0).1
  have q1 : w.cell? ⟨b, o + (N + 1) * 2, none⟩ = some (.int .u8 (p1.code.toNat : Int)) := (hc _ _ hp1).1
  have q2 : w.cell? ⟨b, o + (N + 2) * 2, none⟩ = some (.int .u8 (p2.code.toNat : Int)) := (hc _ _ hp2).1
  have HSUB := Lib.hid (ops_drop ⟨_, _, rfl, h1, h2, fun _ => ⟨b, o, rfl, hb, hc⟩⟩ hN)
  rw [hM, hN]
  rw [hN] at h1
  have hN1 : 1 ≤ N := by omega
  have hNb : N ≤ 60000000 := by omega
  unfold maxLen at h2
  have hw : IntKind.i64.wrap ((N : Int) + 3 - 3) = (N : Int) := by rw [show (N : Int) + 3 - 3 = (N : Int) by omega]; exact IntWalk.i64_in _ (by omega)
  have d0 : decide ((N : Int) < 1) = false := decide_eq_false (by omega)
  have t2 : ((N : Int) + 2).toNat = N + 2 := by omega
  have t1 : ((N : Int) + 1).toNat = N + 1 := by omega
  have i2 : (0 : Int) ≤ (N : Int) + 2 := by omega
  have i2' : (N : Int) + 2 < (N : Int) + 3 := by omega
  have i1 : (0 : Int) ≤ (N : Int) + 1 := by omega
  have i1' : (N : Int) + 1 < (N : Int) + 3 := by omega
  have i0' : (0 : Int) < (N : Int) + 3 := by omega
  have b2 := p2.code.toNat_lt
  have HS1 := Lib.hid (fun W => small_any p1.code W)
  have HS0 := Lib.hid (fun W => small_any p0.code W)
  have sb1 := smallB_bd p1.code
  have sb0 := smallB_bd p0.code
  obtain ⟨s1, hs1⟩ : ∃ s, s = smallB p1.code := ⟨_, rfl⟩
  obtain ⟨s0, hs0⟩ : ∃ s, s = smallB p0.code := ⟨_, rfl⟩
  obtain ⟨u1, hu1⟩ : ∃ s : Int, s = (p1.code.toNat : Int) := ⟨_, rfl⟩
  obtain ⟨u0, hu0⟩ : ∃ s : Int, s = (p0.code.toNat : Int) := ⟨_, rfl⟩
  rw [← hu1] at q1 HS1
  rw [← hu0] at q0 HS0
  rw [← hs1] at HS1 sb1 ⊢
  rw [← hs0] at HS0 sb0 ⊢
  clear hc h3 e hM hp0 hp1 hp2 hN h4 hl hs1 hs0 hu1 hu0
  by_cases c2 : p2.code = 174
  · rw [c2] at q2 ⊢
    have q2' : w.cell? ⟨b, o + (N + 2) * 2, none⟩ = some (.int .u8 174) := q2
    clear q2 c2
    by_cases c1 : s1 = (N : Int)
    · subst c1
      have e1 : decide (1 ≤ s0) = false ∨ decide (1 ≤ s0) = true := by cases decide (1 ≤ s0) <;> simp
      by_cases c0 : 1 ≤ s0
      · have e1 : decide (1 ≤ s0) = true := decide_eq_true c0
        by_cases c3 : s0 ≤ (N : Int)
        · have e3 : decide (s0 ≤ (N : Int)) = true := decide_eq_true c3
          have HC := Lib.hid (contains_key B _ ((L.drop 1).take N) w HSUB.out hB)
          obtain ⟨R, hR⟩ : ∃ R, R = ((L.drop 1).take N).any (fun p => p.code != 33) := ⟨_, rfl⟩
          rw [← hR] at HC ⊢
          rw [e1, e3]
          clear hR
          go_enter Try.func64, Try.ntmps64
          go_wp2_with fail
          refine (HS1.out _).mono ?_
          rintro e w1 ⟨rfl, rfl⟩
          go_wp2_with fail
          refine (HS0.out _).mono ?_
          rintro e w1 ⟨rfl, rfl⟩
          go_wp2_with fail
          refine HC.out.mono ?_
          rintro e w1 ⟨rfl, hb1⟩
          go_wp2_with fail
          go_ret
          exact ⟨by cases R <;> simp, hb1⟩
        · have e3 : decide (s0 ≤ (N : Int)) = false := decide_eq_false c3
          rw [e1, e3]
          go_enter Try.func64, Try.ntmps64
          go_wp2_with fail
          refine (HS1.out _).mono ?_
          rintro e w1 ⟨rfl, rfl⟩
          go_wp2_with fail
          refine (HS0.out _).mono ?_
          rintro e w1 ⟨rfl, rfl⟩
          go_wp2_with fail
          go_ret
          exact ⟨by simp, Below.refl _ _⟩
      · have e1 : decide (1 ≤ s0) = false := decide_eq_false c0
        rw [e1]
        go_enter Try.func64, Try.ntmps64
        go_wp2_with fail
        refine (HS1.out _).mono ?_
        rintro e w1 ⟨rfl, rfl⟩
        go_wp2_with fail
        refine (HS0.out _).mono ?_
        rintro e w1 ⟨rfl, rfl⟩
        go_wp2_with fail
        go_ret
        exact ⟨by simp, Below.refl _ _⟩
    · have e1 : (s1 != (N : Int)) = true := by simpa using c1
      rw [decide_eq_false c1]
      go_enter Try.func64, Try.ntmps64
      go_wp2_with fail
      refine (HS1.out _).mono ?_
      rintro e w1 ⟨rfl, rfl⟩
      go_wp2_with fail
      go_ret
      exact ⟨by simp, Below.refl _ _⟩
  · have e2 : ((p2.code.toNat : Int) != 174) = true := by
      simp only [bne_iff_ne, ne_eq]
      intro h
      exact c2 (u8_ext (by show p2.code.toNat = 174; omega))
    have e2b : (p2.code == 174) = false := by simpa using c2
    rw [e2b]
    clear c2 e2b
    go_enter Try.func64, Try.ntmps64
    go_wp2_with fail
    go_ret
    exact ⟨by simp, Below.refl _ _⟩
end Go.Proofs.Ytpfobbhoahnebaa

/-
  script.multiParts: how many must sign, and the keys. Conditions: none.
-/
namespace Go.Proofs.Ytpfobbhoahnebaa
open Go.RowKit

theorem run_subops (b o N c : Nat) (hc : N + 3 ≤ c) (W : World) :
    (Instr.slice 27 (.slice (some ⟨b, o, none⟩) (N + 3) c) (some (.int .i64 1)) (some (.int .i64 ((N : Int) + 1))) none).run Try.prog W = .ok (.slice (some ⟨b, o + 2, none⟩) N (c - 1)) W := by
  obtain ⟨i0, hi, hz0, hz1, hz2⟩ := info_parts info_op
  have he : Try.prog.elem 27 = 37 := by kernel_rfl
  have ht : Try.prog.underlying 27 = some (.slice (Try.prog.elem 27)) := by rw [he]; exact slice_op
  rw [run_slice_lh (ht := ht) (h0 := by omega) (h1 := by omega) (h2 := by omega), he]
  have h1 : ((N : Int) + 1).toNat = N + 1 := by omega
  have h2 : ¬ c = 1 := by omega
  have hadd : (⟨b, o, none⟩ : Addr).add 2 = ⟨b, o + 2, none⟩ := by unfold Addr.add; split <;> simp_all
  simp [sizeOf, typeInfo, hi, hz1, sliced, go_sem, h1, h2]

theorem row_bag {w : World} {base : Nat} {v : Value} {L : List (Value × List UInt8)} (h : w.ownsRow base 22 1 v L.length (L.map (·.1))) (hd : ∀ p ∈ L, Byt w w.heap.size p.1 p.2) : BagR w w.heap.size v L := by
  refine ⟨?_, hd⟩
  rcases h.2 with ⟨rfl, hn⟩ | ⟨g, cap, cur, rfl, hb, hg, hnc, hcm, hcs, ht⟩
  · obtain rfl : L = [] := List.eq_nil_of_length_eq_zero hn
    exact ⟨none, 0, rfl, Nat.le_refl _, by unfold maxLen; omega, fun h => absurd rfl h⟩
  · refine ⟨some ⟨g, 0, none⟩, cap, rfl, hnc, hcm, fun hne => ⟨g, 0, rfl, (h.lt g rfl).2, fun i p hp => ?_⟩⟩
    have hi := (List.getElem?_eq_some_iff.1 hp).1
    rw [Nat.zero_add]
    refine (World.ownsRow.cellAt h i (by omega)).trans ?_
    rw [List.getElem?_map, hp]
    rfl
theorem cell_two (w : World) (o : Obj) (u : Value) (t : TypeId) : ((w.alloc o).alloc (.cells #[u] t)).cell? ⟨w.heap.size + 1, 0, none⟩ = some u := by
  have h := cell_of_row _ (w.alloc o).heap.size 0 _ _ _ (heap_alloc_new (w.alloc o) (.cells #[u] t))
  rw [World.size_alloc] at h
  exact h

def partsL (a0 : Value) (s0 : Int) (M : List Piece) : List (Value × List UInt8) := (a0, [b8 s0]) :: M.map (fun p => (p.at_, p.data))

set_option maxRecDepth 100000 in
set_option maxHeartbeats 6400000 in
theorem multiParts_any (B N : Nat) (x : Value) (L : List Piece) (p0 : Piece) (w : World) (hx : OpsR w B x L) (hd : ∀ p ∈ L, Byt w B p.at_ p.data) (hB : B ≤ w.heap.size) (hN : L.length = N + 3) (hNb : N ≤ 60000000) (hp0 : L[0]? = some p0) (h1 : 1 ≤ smallB p0.code) :
    Calls Try.prog 65 #[x] w fun e w' => ∃ v a0, e = .returned v ∧ BagR w' w'.heap.size v (partsL a0 (smallB p0.code) ((L.drop 1).take N)) ∧ Below w.heap.size w w' := by
  obtain ⟨A', c, rfl, hl1, hl2, h3⟩ := hx
  obtain ⟨b, o, rfl, hb, hc⟩ := h3 (by rintro rfl; simp at hN)
  have q0 : w.cell? ⟨b, o, none⟩ = some (.int .u8 (p0.code.toNat : Int)) := (hc 0 _ hp0).1
  have HSUB := Lib.hid (ops_drop ⟨_, _, rfl, hl1, hl2, fun _ => ⟨b, o, rfl, hb, hc⟩⟩ hN)
  obtain ⟨M, hM⟩ : ∃ M, M = (L.drop 1).take N := ⟨_, rfl⟩
  have hML : M.length = N := by rw [hM]; simp; omega
  have hMd : ∀ p ∈ M, Byt w B p.at_ p.data := fun p hp => hd p (by rw [hM] at hp; exact List.mem_of_mem_drop (List.mem_of_mem_take hp))
  rw [← hM] at HSUB ⊢
  rw [hN] at hl1 ⊢
  unfold maxLen at hl2
  have HS0 := Lib.hid (fun W => small_any p0.code W)
  have sb0 := smallB_bd p0.code
  obtain ⟨s0, hs0⟩ : ∃ s, s = smallB p0.code := ⟨_, rfl⟩
  obtain ⟨u0, hu0⟩ : ∃ s : Int, s = (p0.code.toNat : Int) := ⟨_, rfl⟩
  rw [← hu0] at q0 HS0
  rw [← hs0] at HS0 sb0 h1 ⊢
  have hsl := run_subops b o N c hl1
  have hw : IntKind.i64.wrap ((N : Int) + 3 - 2) = (N : Int) + 1 := by rw [show (N : Int) + 3 - 2 = (N : Int) + 1 by omega]; exact IntWalk.i64_in _ (by omega)
  have hw8 : IntKind.u8.wrap s0 = s0 := by rw [IntKind.wrap_u8]; omega
  have i0' : (0 : Int) < (N : Int) + 3 := by omega
  have HMD := Lib.hid hMd
  have hmade := Byt.made w 5 [.int .u8 s0] [b8 s0] (by rw [List.map_cons, bv_b8_of (by omega) (by omega)]; rfl) (by unfold maxLen; simp)
  obtain ⟨W0, hW0⟩ : ∃ W0, W0 = w.alloc (.cells #[.int .u8 s0] 5) := ⟨_, rfl⟩
  have hmade0 : Byt W0 (w.heap.size + 1) (.slice (some ⟨w.heap.size, 0, none⟩) 1 1) [b8 s0] := by rw [hW0]; exact hmade
  have HMADE := Lib.hid hmade0
  have hb0 : Below w.heap.size w W0 := by rw [hW0]; exact byt_below _ _ (Nat.le_refl _)
  have hz0 : W0.heap.size = w.heap.size + 1 := by rw [hW0]; simp
  have HB0 := Lib.hid hb0
  have HZ0 := Lib.hid hz0
  have hrow : (W0.alloc (.cells #[.slice (some ⟨w.heap.size, 0, none⟩) 1 1] 22)).ownsRow (w.heap.size + 1) 22 1 (.slice (some ⟨W0.heap.size, 0, none⟩) 1 1) 1 [.slice (some ⟨w.heap.size, 0, none⟩) 1 1] :=
    ⟨by simp, .inr ⟨W0.heap.size, 1, _, rfl, by omega, heap_alloc_new W0 _, Nat.le_refl _, by unfold maxLen; omega, rfl, rfl⟩⟩
  rw [hz0] at hrow
  have HROW := Lib.hid hrow
  have HBR := Lib.hid (show Below (w.heap.size + 1) W0 (W0.alloc (.cells #[.slice (some ⟨w.heap.size, 0, none⟩) 1 1] 22)) from byt_below _ _ (by omega))
  rw [hW0] at HROW HBR
  clear hc h3 hM hN hp0 hs0 hu0 hMd hd hmade hmade0 hb0 hz0 hrow
  go_enter Try.func65, Try.ntmps65
  go_wp2_with fail
  refine (HS0.out _).mono ?_
  rintro e w1 ⟨rfl, rfl⟩
  go_wp2_with fail
  rw [← hW0] at HROW HBR ⊢
  go_loopw [3, 20] (fun s t wr => ∃ (k : Nat) (v : Value), v = s ∧ k ≤ N ∧ t = .int .i64 (k : Int) ∧ Hid (wr.ownsRow (w.heap.size + 1) 22 1 v (k + 1) ((.slice (some ⟨w.heap.size, 0, none⟩) 1 1) :: (M.take k).map Piece.at_)) ∧ Hid (Below (w.heap.size + 1) W0 wr)) (fun _ t _ => N - (intOf t).toNat)
  case atStart => exact ⟨0, _, rfl, Nat.zero_le _, rfl, HROW, HBR⟩
  case round =>
    obtain ⟨k, v, hv, hk, rfl, hown, hbel⟩ := hrel
    subst hv
    by_cases hlt : k < N
    · obtain ⟨A', c', e0, _, _, h4⟩ := HSUB.out
      obtain ⟨e1, e2, e3⟩ := Value.slice.inj e0
      subst e3
      obtain ⟨b', o', e', hb', hc⟩ := h4 (by rintro rfl; simp at hML; omega)
      rw [← e1] at e'
      injection e' with e'
      obtain ⟨e1', e2', _⟩ := Addr.mk.inj e'
      subst e1' e2'
      obtain ⟨c0, c1, Ap, cp, hp⟩ := hc k _ (List.getElem?_eq_getElem (show k < M.length by omega))
      have hsn : (M.take (k + 1)).map Piece.at_ = (M.take k).map Piece.at_ ++ [M[k].at_] := by rw [List.take_succ_eq_append_getElem (by omega), List.map_append]; rfl
      obtain ⟨q, hq⟩ : ∃ q, q = M[k] := ⟨_, rfl⟩
      rw [← hq] at c0 c1 hp hsn
      have hbw : Below w.heap.size w wr := HB0.out.trans (hbel.out.mono (by omega))
      have r0 : wr.cell? ⟨b, o + 2 + k * 2, none⟩ = some (.int .u8 (q.code.toNat : Int)) := (hbw.cell (p := ⟨b, _, none⟩) (by show b < _; omega)).trans c0
      have r1 : wr.cell? ⟨b, o + 2 + k * 2 + 1, none⟩ = some (.slice Ap q.data.length cp) := (hbw.cell (p := ⟨b, _, none⟩) (by show b < _; omega)).trans (c1.trans (by rw [hp]))
      have HSN := Lib.hid hsn
      have HQ := Lib.hid hp
      have hdk : decide (k < N) = true := decide_eq_true hlt
      clear hc h4 e0 e1 e2 e' c0 c1 hq hp hsn hbw
      have hown2 : ((wr.alloc (.cells #[.int .u8 (q.code.toNat : Int), .slice Ap q.data.length cp] 37)).alloc (.cells #[.slice Ap q.data.length cp] 22)).ownsRow (w.heap.size + 1) 22 1 v (k + 1) ((.slice (some ⟨w.heap.size, 0, none⟩) 1 1) :: (M.take k).map Piece.at_) := World.ownsRow.alloc (World.ownsRow.alloc hown.out _) _
      have OWN2 := Lib.hid hown2
      have hs1 : w.heap.size + 1 ≤ wr.heap.size := by have := hbel.out.size; have := HZ0.out; omega
      have HS1 := Lib.hid hs1
      have CELL := Lib.hid (cell_two wr (.cells #[.int .u8 (q.code.toNat : Int), .slice Ap q.data.length cp] 37) (.slice Ap q.data.length cp) 22)
      have BEL2 := Lib.hid ((hbel.out.alloc (by omega) (.cells #[.int .u8 (q.code.toNat : Int), .slice Ap q.data.length cp] 37)).alloc (by simp; omega) (.cells #[.slice Ap q.data.length cp] 22))
      clear hown2 hs1
      go_wp2_with (at_builtin; refine wpList_append_bag rfl (.tmp 24) (.tmp 27) rfl (w.heap.size + 1) _ (k + 1) _ rfl OWN2.out (wr.heap.size + 1) (.slice Ap q.data.length cp) rfl CELL.out rfl (by omega) (by have := HS1.out; simp; omega) ?_; intro v5 w5 hown5 hg5)
      have ho5 : w5.ownsRow (w.heap.size + 1) 22 1 v5 (k + 1 + 1) ((.slice (some ⟨w.heap.size, 0, none⟩) 1 1) :: (M.take (k + 1)).map Piece.at_) := by rw [HSN.out, HQ.out]; exact hown5
      have hb5 : Below (w.heap.size + 1) W0 w5 := BEL2.out.grown hg5 (by have := HS1.out; simp; omega) (fun j hj => (World.ownsRow.lt OWN2.out j hj).1)
      have HO5 := Lib.hid ho5
      have HB5 := Lib.hid hb5
      clear hown5 hg5 ho5 hb5
      go_roundw
      case rel => exact ⟨k + 1, _, rfl, by omega, by go_num, HO5, HB5⟩
      case measure => simp [intOf]; omega
    · obtain rfl : k = N := by omega
      have ho := hown.out
      rw [List.take_of_length_le (by omega)] at ho
      have HO := Lib.hid ho
      clear ho
      go_wp2_with fail
      go_ret
      have hbw : Below w.heap.size w wr := HB0.out.trans (hbel.out.mono (by omega))
      refine ⟨v, .slice (some ⟨w.heap.size, 0, none⟩) 1 1, rfl, row_bag (base := w.heap.size + 1) ?_ ?_, hbw⟩
      · unfold partsL
        rw [List.length_cons, List.length_map, hML, List.map_cons, List.map_map]
        exact HO.out
      · intro p hp
        unfold partsL at hp
        rcases List.mem_cons.1 hp with rfl | hp
        · exact (HMADE.out.below hbel.out).more (by have := hbel.out.size; have := HZ0.out; omega)
        · obtain ⟨q, hq, rfl⟩ := List.mem_map.1 hp
          exact ((HMD.out q hq).below (hbw.mono hB)).more (by have := hbw.size; omega)
end Go.Proofs.Ytpfobbhoahnebaa

/-
  script.Kind at the form of many keys. Conditions: sixteen keys at most, thirty-three bytes each.
-/
namespace Go.Proofs.Ytpfobbhoahnebaa
open Go.RowKit

theorem parse_push {c : UInt8} {k : List UInt8} (hc : c.toNat = k.length) (h : k.length < 76) (xs : List UInt8) : parseP (c :: (k ++ xs)) = (parseP xs).map ((c, k) :: ·) := by
  have q : opR c (k ++ xs) = (k, 0, xs) := by
    unfold opR sizeD
    rw [if_pos (by omega)]
    dsimp only
    rw [hc]
    exact rawR_app k xs
  rw [parseP_ok (by rw [q]), q]
theorem vcode_nat {v : Int} (h0 : 0 < v) (h1 : v ≤ 16) : (vcode v).toNat = 80 + v.toNat := by
  unfold vcode
  rw [if_neg (by omega), UInt8.toNat_ofNat', Nat.mod_eq_of_lt (by omega)]
theorem parse_keys (ks : List (List UInt8)) (h : ks.any (fun k => k.length != 33) = false) (xs : List UInt8) : parseP (flatK ks ++ xs) = (parseP xs).map (ks.map (fun k => ((33 : UInt8), k)) ++ ·) := by
  induction ks with
  | nil => unfold flatK; simp
  | cons k ks ih =>
    rw [List.any_cons, Bool.or_eq_false_iff] at h
    have hk : k.length = 33 := by simpa using h.1
    have e : flatK (k :: ks) ++ xs = 33 :: (k ++ (flatK ks ++ xs)) := by unfold flatK; simp
    rw [e, parse_push (by rw [hk]; rfl) (by omega), ih h.2, Option.map_map]
    rfl
def multiOps (m : Int) (ks : List (List UInt8)) : List (UInt8 × List UInt8) := (vcode m, []) :: (ks.map (fun k => ((33 : UInt8), k)) ++ [(vcode (ks.length : Int), []), (174, [])])
theorem parse_multi (m : Int) (ks : List (List UInt8)) (h : ks.any (fun k => k.length != 33) = false) (h0 : 1 ≤ m) (h1 : m ≤ (ks.length : Int)) (h2 : ks.length ≤ 16) : parseP (multiForm m ks) = some (multiOps m ks) := by
  have e : multiForm m ks = vcode m :: (flatK ks ++ (vcode (ks.length : Int) :: 174 :: [])) := by unfold multiForm; simp
  have n1 := vcode_nat (v := m) (by omega) (by omega)
  have n2 := vcode_nat (v := (ks.length : Int)) (by omega) (by omega)
  rw [e, parse_code (by omega), parse_keys ks h, parse_code (by omega), parse_code (by decide), parseP_nil]
  unfold multiOps
  simp
theorem multi_codes (m : Int) (ks : List (List UInt8)) : (multiOps m ks).map (·.1) = vcode m :: (List.replicate ks.length 33 ++ [vcode (ks.length : Int), 174]) := by
  unfold multiOps
  rw [List.map_cons, List.map_append, List.map_map]
  congr 2
  induction ks with
  | nil => rfl
  | cons k ks ih => rw [List.map_cons, ih]; rfl
theorem multi_datas (m : Int) (ks : List (List UInt8)) : (multiOps m ks).map (·.2) = [] :: (ks ++ [[], []]) := by
  unfold multiOps
  rw [List.map_cons, List.map_append, List.map_map]
  congr 2
  induction ks with
  | nil => rfl
  | cons k ks ih => rw [List.map_cons, ih]; rfl
theorem multiB_form (m : Int) (n : Nat) (h0 : 1 ≤ m) (h1 : m ≤ (n : Int)) (h2 : n ≤ 16) : multiB (vcode m :: (List.replicate n 33 ++ [vcode (n : Int), 174])) = true := by
  have hl : (vcode m :: (List.replicate n (33 : UInt8) ++ [vcode (n : Int), 174])).length = n + 3 := by simp
  have g2 : (vcode m :: (List.replicate n (33 : UInt8) ++ [vcode (n : Int), 174])).getD (n + 2) 0 = 174 := by
    rw [List.getD_cons_succ, List.getD, List.getElem?_append_right (by simp), List.length_replicate, show n + 1 - n = 1 by omega]
    rfl
  have g1 : (vcode m :: (List.replicate n (33 : UInt8) ++ [vcode (n : Int), 174])).getD (n + 1) 0 = vcode (n : Int) := by
    rw [List.getD_cons_succ, List.getD, List.getElem?_append_right (by simp), List.length_replicate, show n - n = 0 by omega]
    rfl
  have g0 : (vcode m :: (List.replicate n (33 : UInt8) ++ [vcode (n : Int), 174])).getD 0 0 = vcode m := rfl
  have gt : ((vcode m :: (List.replicate n (33 : UInt8) ++ [vcode (n : Int), 174])).drop 1).take n = List.replicate n 33 := by
    rw [List.drop_succ_cons, List.drop_zero]
    exact List.take_left' (by simp)
  unfold multiB
  rw [hl, if_neg (by omega), show n + 3 - 1 = n + 2 by omega, show n + 3 - 2 = n + 1 by omega, show n + 3 - 3 = n by omega, g2, g1, g0, gt, small_vcode _ (by omega) (by omega), small_vcode _ (by omega) (by omega), show ((n + 3 : Nat) : Int) - 3 = (n : Int) by omega]
  have ha : (List.replicate n (33 : UInt8)).any (· != 33) = false := by
    rw [List.any_eq_false]
    intro x hx
    rw [List.eq_of_mem_replicate hx]
    decide
  rw [ha]
  simp [h0, h1]

theorem prog_long (B : Nat) (x : Value) (xs : List UInt8) (w : World) (hx : Byt w B x xs) (h : 42 < xs.length) :
    Calls Try.prog 29 #[x] w fun e w' => e = .returned (.tuple #[.int .i64 0, .slice none 0 0, .bool false]) ∧ w = w' := by
  have hl := hx.len
  unfold maxLen at hl
  obtain ⟨A, c, rfl⟩ := hx.form
  have d1 : decide ((xs.length : Int) < 4) = false := decide_eq_false (by omega)
  have d2 : decide ((42 : Int) < (xs.length : Int)) = true := decide_eq_true (by omega)
  clear hx
  go_enter Try.func29, Try.ntmps29
  go_wp2_with fail
  go_ret3
  exact ⟨rfl, rfl⟩

theorem prog_multi (B : Nat) (x : Value) (m : Int) (ks : List (List UInt8)) (w : World) (hx : Byt w B x (multiForm m ks)) (h : ks.any (fun k => k.length != 33) = false) (h1 : 1 ≤ ks.length) :
    Calls Try.prog 29 #[x] w fun e w' => e = .returned (.tuple #[.int .i64 0, .slice none 0 0, .bool false]) ∧ w = w' := by
  have hf := flatK_len h
  have hl : (multiForm m ks).length = 34 * ks.length + 3 := by unfold multiForm; simp [hf]
  by_cases h2 : 2 ≤ ks.length
  · exact prog_long B x _ w hx (by omega)
  · obtain ⟨k, rfl⟩ := List.length_eq_one_iff.1 (show ks.length = 1 by omega)
    have hk : k.length = 33 := by simpa using h
    have e : multiForm m [k] = vcode m :: 33 :: (k ++ [vcode 1, 174]) := by unfold multiForm flatK; simp
    rw [e] at hx
    exact prog_no B x (vcode m) 33 (k ++ [vcode 1, 174]) w hx (by rw [List.length_append, hk]; decide) (by simp) (by simp [hk])

/-- What Kind answers there. -/
def KindM (w : World) (m : Int) (ks : List (List UInt8)) (e : Ending) (w' : World) : Prop :=
  ∃ v M, e = .returned (.tuple #[.int .i64 5, v]) ∧ BagR w' w'.heap.size v M ∧ M.map (·.2) = [b8 m] :: ks ∧ Below w.heap.size w w'

set_option maxRecDepth 100000 in
set_option maxHeartbeats 6400000 in
theorem kind_multi (B : Nat) (x : Value) (m : Int) (ks : List (List UInt8)) (w : World) (hx : Byt w B x (multiForm m ks)) (hk : ks.any (fun k => k.length != 33) = false) (h0 : 1 ≤ m) (h1 : m ≤ (ks.length : Int)) (h2 : ks.length ≤ 16) :
    Calls Try.prog 26 #[x] w (KindM w m ks) := by
  have hf := flatK_len hk
  have hlen : (multiForm m ks).length = 34 * ks.length + 3 := by unfold multiForm; simp [hf]
  have HN := Lib.hid (prog_multi B x m ks w hx hk (by omega))
  have HP := Lib.hid (parse_list B x (multiForm m ks) _ (parse_multi m ks hk h0 h1 h2) w hx (by omega))
  have ncode := vcode_nat (v := m) (by omega) (by omega)
  have hol : (multiOps m ks).length = ks.length + 3 := by unfold multiOps; simp
  obtain ⟨A, c, rfl⟩ := hx.form
  obtain ⟨F, hF⟩ : ∃ F, F = (multiForm m ks).length := ⟨_, rfl⟩
  rw [← hF] at HN HP ⊢
  have HMN := Lib.hid (And.intro h0 (And.intro h1 h2))
  have HNC := Lib.hid ncode
  have HOL := Lib.hid hol
  have HFb : Hid (F ≤ 60000000) := Lib.hid (by omega)
  clear hx hlen hf hF ncode hol hk h0 h1 h2
  go_enter Try.func26, Try.ntmps26
  go_wp2_with fail
  refine HN.out.mono ?_
  rintro e w1 ⟨rfl, rfl⟩
  go_wp2_with fail
  refine HP.out.mono ?_
  rintro e w1 ⟨Av, cv, L, rfl, hL, hops, hb1⟩
  rw [HOL.out] at hops ⊢
  have hro := OpsR.of_at hops
  have hLl : L.length = ks.length + 3 := by rw [← HOL.out, ← hL, List.length_map]
  have hcod := codes_of hL
  rw [multi_codes] at hcod
  have hd : ∀ p ∈ L, Byt w1 w1.heap.size p.at_ p.data := fun p hp => Byt.of_own (hops.2.1 p hp)
  obtain ⟨p0, hp0⟩ : ∃ p, L[0]? = some p := ⟨_, List.getElem?_eq_getElem (by omega)⟩
  have hc0 : p0.code = vcode m := by
    have := congrArg (fun l : List UInt8 => l[0]?) hcod
    rw [List.getElem?_map, hp0] at this
    exact Option.some.inj this
  have hdat : ((L.drop 1).take ks.length).map Piece.data = ks := by
    have h := congrArg (fun l : List (UInt8 × List UInt8) => ((l.map (·.2)).drop 1).take ks.length) hL
    simp only [multi_datas, List.map_map, List.drop_succ_cons, List.drop_zero] at h
    rw [List.take_left' rfl] at h
    rw [List.map_take, List.map_drop]
    exact h
  have hne1 : decide (L.map Piece.code = [118, 169, 20, 136, 172]) = false := decide_eq_false (by rw [hcod]; intro e; have hq := congrArg UInt8.toNat (List.cons.inj e).1; rw [HNC.out] at hq; have hz := HMN.out; have h118 : (118 : UInt8).toNat = 118 := rfl; have h169 : (169 : UInt8).toNat = 169 := rfl; omega)
  have hne2 : decide (L.map Piece.code = [169, 20, 135]) = false := decide_eq_false (by rw [hcod]; intro e; have hq := congrArg UInt8.toNat (List.cons.inj e).1; rw [HNC.out] at hq; have hz := HMN.out; have h118 : (118 : UInt8).toNat = 118 := rfl; have h169 : (169 : UInt8).toNat = 169 := rfl; omega)
  have hm := Byt.made w1 5 [.int .u8 118, .int .u8 169, .int .u8 20, .int .u8 136, .int .u8 172] [118, 169, 20, 136, 172] rfl (by unfold maxLen; simp)
  have hbm : Below w1.heap.size w1 (w1.alloc (.cells #[.int .u8 118, .int .u8 169, .int .u8 20, .int .u8 136, .int .u8 172] 5)) := byt_below _ _ (Nat.le_refl _)
  have hck := coded_any w1.heap.size (w1.heap.size + 1) _ _ L [118, 169, 20, 136, 172] _ (hro.below hbm) hm (by simp) (by simp)
  rw [hne1] at hck
  have HK := Lib.hid hck
  have hco := fun (w9 : World) (h9 : Below w1.heap.size w1 w9) => coded_any w1.heap.size (w9.heap.size + 1) _ _ L [169, 20, 135] _ ((hro.below h9).below (byt_below w9 (.cells #[.int .u8 169, .int .u8 20, .int .u8 135] 5) h9.size)) (Byt.made w9 5 [.int .u8 169, .int .u8 20, .int .u8 135] [169, 20, 135] rfl (by unfold maxLen; simp)) (by have := h9.size; simp; omega) (by simp)
  rw [hne2] at hco
  have HC := Lib.hid hco
  have hmu := fun (w9 : World) (h9 : Below w1.heap.size w1 w9) => multi_any w1.heap.size _ L w9 (hro.below h9) h9.size (by have := HMN.out; omega)
  rw [hcod, multiB_form m ks.length HMN.out.1 HMN.out.2.1 HMN.out.2.2] at hmu
  have HMU := Lib.hid hmu
  have hmp := fun (w9 : World) (h9 : Below w1.heap.size w1 w9) => multiParts_any w1.heap.size ks.length _ L p0 w9 (hro.below h9) (fun p hp => (hd p hp).below h9) h9.size hLl (by have := HMN.out; omega) hp0 (by rw [hc0, small_vcode _ (by have := HMN.out; omega) (by have := HMN.out; omega)]; exact HMN.out.1)
  rw [hc0, small_vcode _ (by have := HMN.out; omega) (by have := HMN.out; omega)] at hmp
  have HMP := Lib.hid hmp
  have HDAT := Lib.hid hdat
  have HB1 := Lib.hid hb1
  have HB2 := Lib.hid hbm
  clear hmp hmu hco hck hcod hm hbm hro hops hL hb1 HN HP hdat hne1 hne2 hd hp0 hc0 hLl
  obtain ⟨Q, hQ⟩ : ∃ Q, Q = ks.length := ⟨_, rfl⟩
  rw [← hQ] at HK HC HMU HMP HDAT ⊢
  clear hQ
  go_wp2_with fail
  refine HK.out.mono ?_
  rintro e w9 ⟨rfl, hb9⟩
  have HB9 := Lib.hid (HB2.out.trans (hb9.mono (by simp)))
  clear hb9
  go_wp2_with fail
  refine (HC.out w9 HB9.out).mono ?_
  rintro e w2 ⟨rfl, hb2⟩
  have HB10 := Lib.hid ((HB9.out.alloc HB9.out.size (.cells #[.int .u8 169, .int .u8 20, .int .u8 135] 5)).trans (hb2.mono (by have := HB9.out.size; simp; omega)))
  clear hb2
  go_wp2_with fail
  refine (HMU.out w2 HB10.out).mono ?_
  rintro e w3 ⟨rfl, hb3⟩
  have HB11 := Lib.hid (HB10.out.trans (hb3.mono HB10.out.size))
  clear hb3
  go_wp2_with fail
  refine (HMP.out w3 HB11.out).mono ?_
  rintro e w4 ⟨v4, a0, rfl, bag4, hb4⟩
  have HB12 := Lib.hid (HB1.out.trans ((HB11.out.trans (hb4.mono HB11.out.size)).mono HB1.out.size))
  have hpm : (partsL a0 m ((L.drop 1).take Q)).map (·.2) = [b8 m] :: ks := by
    unfold partsL
    rw [List.map_cons, List.map_map]
    exact congrArg (List.cons [b8 m]) HDAT.out
  obtain ⟨P, hP⟩ : ∃ P, P = partsL a0 m ((L.drop 1).take Q) := ⟨_, rfl⟩
  rw [← hP] at bag4 hpm
  have BAG4 := Lib.hid bag4
  have HPM := Lib.hid hpm
  obtain ⟨A4, c4, rfl⟩ := bag4.form
  clear hP hpm
  clear bag4 hb4
  go_wp2_with fail
  go_ret2
  exact ⟨_, P, rfl, BAG4.out, HPM.out, HB12.out⟩
end Go.Proofs.Ytpfobbhoahnebaa

/-
  script.Program at any bytes; the reference's Small and Program. Conditions: sizes within the reach.
-/
namespace Go.Proofs.Ytpfobbhoahnebaa
open Go.RowKit

theorem progB_two (a b : UInt8) (ys : List UInt8) : progB (a :: b :: ys) = if ys.length < 2 ∨ 40 < ys.length ∨ b.toNat ≠ ys.length ∨ smallB a < 0 then none else some (smallB a, ys) := rfl
theorem progV_none {w w' : World} {xs : List UInt8} {e : Ending} (h : progB xs = none) (he : e = .returned (.tuple #[.int .i64 0, .slice none 0 0, .bool false])) (hw : w = w') : ProgV w xs e w' := by
  unfold ProgV
  rw [h]
  subst hw
  exact ⟨he, Below.refl _ _⟩
theorem program_short (B : Nat) (x : Value) (xs : List UInt8) (w : World) (hx : Byt w B x xs) (h : xs.length < 4) :
    Calls Try.prog 29 #[x] w fun e w' => e = .returned (.tuple #[.int .i64 0, .slice none 0 0, .bool false]) ∧ w = w' := by
  obtain ⟨A, c, rfl⟩ := hx.form
  have d1 : decide ((xs.length : Int) < 4) = true := decide_eq_true (by omega)
  clear hx
  go_enter Try.func29, Try.ntmps29
  go_wp2_with fail
  go_ret3
  exact ⟨rfl, rfl⟩
set_option maxRecDepth 100000 in
set_option maxHeartbeats 3200000 in
theorem prog_neg (B : Nat) (x : Value) (a b : UInt8) (ys : List UInt8) (w : World) (hx : Byt w B x (a :: b :: ys)) (h : b.toNat = ys.length) (h2 : 2 ≤ ys.length) (h40 : ys.length ≤ 40) (hs : smallB a < 0) :
    Calls Try.prog 29 #[x] w fun e w' => e = .returned (.tuple #[.int .i64 0, .slice none 0 0, .bool false]) ∧ w = w' := by
  obtain ⟨A, c, rfl, h1, hm, _, h4⟩ := hx
  obtain ⟨gb, o, rfl, hb, hc⟩ := h4 (by simp)
  have hcell1 : w.cell? ⟨gb, o + 1, none⟩ = some (.int .u8 (b.toNat : Int)) := hc 1 b rfl
  have hcell0 : w.cell? ⟨gb, o, none⟩ = some (.int .u8 (a.toNat : Int)) := hc 0 a rfl
  obtain ⟨n, hn⟩ : ∃ n, n = ys.length := ⟨_, rfl⟩
  have e : (a :: b :: ys).length = n + 2 := by simp [hn]
  rw [e] at h1 ⊢
  rw [← hn] at h h2 h40
  unfold maxLen at hm
  have d1 : decide ((n : Int) + 2 < 4) = false := decide_eq_false (by omega)
  have d2 : decide ((42 : Int) < (n : Int) + 2) = false := decide_eq_false (by omega)
  have d3 : ((b.toNat : Int) != (n : Int)) = false := by simp [h]
  have hpos : (0 : Int) < (n : Int) + 2 := by omega
  have hb256 := b.toNat_lt
  have HS := Lib.hid (fun W => small_any a W)
  obtain ⟨sv, hsv⟩ : ∃ sv, sv = smallB a := ⟨_, rfl⟩
  rw [← hsv] at HS hs
  have d4 : decide (sv < 0) = true := decide_eq_true hs
  clear hc h4 e h hn hsv
  go_enter Try.func29, Try.ntmps29
  go_wp2_with fail
  refine (HS.out _).mono ?_
  rintro e w1 ⟨rfl, rfl⟩
  go_wp2_with fail
  go_ret3
  exact ⟨rfl, rfl⟩
theorem prog_any (B : Nat) (x : Value) (xs : List UInt8) (w : World) (hx : Byt w B x xs) (hB : B ≤ w.heap.size) :
    Calls Try.prog 29 #[x] w (ProgV w xs) := by
  by_cases h4 : xs.length < 4
  · refine (program_short B x xs w hx h4).mono fun e w' ⟨he, hw⟩ => progV_none ?_ he hw
    match xs, h4 with
    | [], _ => rfl
    | [_], _ => rfl
    | a :: b :: ys, h4 => rw [progB_two, if_pos (.inl (by simp at h4; omega))]
  · match xs, h4, hx with
    | [], h4, _ => simp at h4
    | [_], h4, _ => simp at h4
    | a :: b :: ys, h4, hx =>
      have h2 : 2 ≤ ys.length := by simp at h4; omega
      by_cases h40 : 40 < ys.length
      · exact (prog_long B x _ w hx (by simp; omega)).mono fun e w' ⟨he, hw⟩ => progV_none (by rw [progB_two, if_pos (.inr (.inl h40))]) he hw
      · by_cases hl : b.toNat = ys.length
        · by_cases hs : smallB a < 0
          · exact (prog_neg B x a b ys w hx hl h2 (by omega) hs).mono fun e w' ⟨he, hw⟩ => progV_none (by rw [progB_two, if_pos (.inr (.inr (.inr hs)))]) he hw
          · refine (prog_yes B x a b ys w hx hB hl h2 (by omega) (by omega)).mono fun e w' h => ?_
            have : progB (a :: b :: ys) = some (smallB a, ys) := by rw [progB_two, if_neg (by omega)]
            unfold ProgV
            rw [this]
            exact h
        · exact (prog_no B x a b ys w hx hl h2 (by omega)).mono fun e w' ⟨he, hw⟩ => progV_none (by rw [progB_two, if_pos (.inr (.inr (.inl hl)))]) he hw

set_option maxHeartbeats 400000 in
theorem rsmall_any (c : UInt8) (w : World) : Calls Try.prog 68 #[.int .u8 (c.toNat : Int)] w fun e w' => e = .returned (.int .i64 (smallB c)) ∧ w = w' := by
  have hc := c.toNat_lt
  by_cases h0 : c = 0
  · subst h0
    go_enter Try.func68, Try.ntmps68
    go_wp2_with fail
    go_ret
    exact ⟨rfl, rfl⟩
  · have hn : c.toNat ≠ 0 := fun h => h0 (u8_ext (by show c.toNat = 0; exact h))
    have e0 : ((c.toNat : Int) == 0) = false := by simp only [beq_eq_false_iff_ne, ne_eq]; omega
    by_cases h1 : c.toNat < 81
    · have d1 : decide ((81 : Int) ≤ (c.toNat : Int)) = false := decide_eq_false (by omega)
      have hs : smallB c = -1 := by unfold smallB; rw [if_neg h0, if_neg (by omega)]
      rw [hs]
      clear hs h0
      go_enter Try.func68, Try.ntmps68
      go_wp2_with fail
      go_ret
      exact ⟨rfl, rfl⟩
    · have d1 : decide ((81 : Int) ≤ (c.toNat : Int)) = true := decide_eq_true (by omega)
      by_cases h2 : c.toNat ≤ 96
      · have d2 : decide ((c.toNat : Int) ≤ 96) = true := decide_eq_true (by omega)
        have hs : smallB c = (c.toNat : Int) - 80 := by unfold smallB; rw [if_neg h0, if_pos (by omega)]
        have hw : IntKind.i64.wrap ((c.toNat : Int) - 80) = (c.toNat : Int) - 80 := IntWalk.i64_in _ (by omega)
        rw [hs]
        clear hs h0
        go_enter Try.func68, Try.ntmps68
        go_wp2_with fail
        go_ret
        exact ⟨rfl, rfl⟩
      · have d2 : decide ((c.toNat : Int) ≤ 96) = false := decide_eq_false (by omega)
        have hs : smallB c = -1 := by unfold smallB; rw [if_neg h0, if_neg (by omega)]
        rw [hs]
        clear hs h0
        go_enter Try.func68, Try.ntmps68
        go_wp2_with fail
        go_ret
        exact ⟨rfl, rfl⟩

/-- What the reference's Program answers. -/
def RProgV (w : World) (xs : List UInt8) (e : Ending) (w' : World) : Prop :=
  match progB xs with
  | none => e = .returned (.tuple #[.int .i64 (-1), .slice none 0 0]) ∧ Below w.heap.size w w'
  | some p => ∃ v, e = .returned (.tuple #[.int .i64 p.1, v]) ∧ OwnB w' w.heap.size v p.2 ∧ Below w.heap.size w w'
theorem rprogV_none {w w' : World} {xs : List UInt8} {e : Ending} (h : progB xs = none) (he : e = .returned (.tuple #[.int .i64 (-1), .slice none 0 0])) (hw : w = w') : RProgV w xs e w' := by
  unfold RProgV
  rw [h]
  subst hw
  exact ⟨he, Below.refl _ _⟩
theorem rprog_len (B : Nat) (x : Value) (xs : List UInt8) (w : World) (hx : Byt w B x xs) (h : xs.length < 4 ∨ 42 < xs.length) :
    Calls Try.prog 30 #[x] w fun e w' => e = .returned (.tuple #[.int .i64 (-1), .slice none 0 0]) ∧ w = w' := by
  obtain ⟨A, c, rfl⟩ := hx.form
  by_cases h4 : xs.length < 4
  · have d1 : decide ((xs.length : Int) < 4) = true := decide_eq_true (by omega)
    clear hx h
    go_enter Try.func30, Try.ntmps30
    go_wp2_with fail
    go_ret2
    exact ⟨rfl, rfl⟩
  · have d1 : decide ((xs.length : Int) < 4) = false := decide_eq_false (by omega)
    have d2 : decide ((42 : Int) < (xs.length : Int)) = true := decide_eq_true (by omega)
    clear hx h
    go_enter Try.func30, Try.ntmps30
    go_wp2_with fail
    go_ret2
    exact ⟨rfl, rfl⟩
set_option maxRecDepth 100000 in
set_option maxHeartbeats 6400000 in
theorem rprog_in (B : Nat) (x : Value) (a b : UInt8) (ys : List UInt8) (w : World) (hx : Byt w B x (a :: b :: ys)) (hB : B ≤ w.heap.size) (h2 : 2 ≤ ys.length) (h40 : ys.length ≤ 40) :
    Calls Try.prog 30 #[x] w (RProgV w (a :: b :: ys)) := by
  obtain ⟨A, c, rfl, h1, hm, _, h4⟩ := hx
  obtain ⟨gb, o, rfl, hb, hc⟩ := h4 (by simp)
  have hcell1 : w.cell? ⟨gb, o + 1, none⟩ = some (.int .u8 (b.toNat : Int)) := hc 1 b rfl
  have hcell0 : w.cell? ⟨gb, o, none⟩ = some (.int .u8 (a.toNat : Int)) := hc 0 a rfl
  have htl : Byt w B (.slice (some ⟨gb, o + 2, none⟩) ys.length (c - 2)) ys := by
    refine ⟨_, _, rfl, by simp at h1; omega, by omega, (by intro h; cases h), fun _ => ⟨gb, o + 2, rfl, hb, fun j u hu => ?_⟩⟩
    have := hc (j + 2) u (by simpa using hu)
    rw [Nat.add_assoc, Nat.add_comm 2 j]
    exact this
  have hq := progB_two a b ys
  obtain ⟨n, hn⟩ : ∃ n, n = ys.length := ⟨_, rfl⟩
  have e : (a :: b :: ys).length = n + 2 := by simp [hn]
  rw [e] at h1 ⊢
  rw [← hn] at h2 h40 htl hq
  unfold maxLen at hm
  have hsl : ∀ W, (Instr.slice 22 (.slice (some ⟨gb, o, none⟩) (n + 2) c) (some (.int .i64 2)) none none).run Try.prog W = .ok (.slice (some ⟨gb, o + 2, none⟩) n (c - 2)) W := fun W => by
    have := run_from (some ⟨gb, o, none⟩) (n + 2) c 2 (by omega) W
    rw [if_neg (by omega)] at this
    have hadd : (⟨gb, o, none⟩ : Addr).add 2 = ⟨gb, o + 2, none⟩ := by unfold Addr.add; split <;> simp_all
    rw [Option.map_some, hadd, Nat.add_sub_cancel] at this
    exact this
  have d1 : decide ((n : Int) + 2 < 4) = false := decide_eq_false (by omega)
  have d2 : decide ((42 : Int) < (n : Int) + 2) = false := decide_eq_false (by omega)
  have hpos : (0 : Int) < (n : Int) + 2 := by omega
  have hpos1 : (1 : Int) < (n : Int) + 2 := by omega
  have hb256 := b.toNat_lt
  have HT := Lib.hid htl
  have HS := Lib.hid (fun W => rsmall_any a W)
  have HN := Lib.hid hn
  obtain ⟨sv, hsv⟩ : ∃ sv, sv = smallB a := ⟨_, rfl⟩
  rw [← hsv] at HS hq
  by_cases hs : sv < 0
  · have d4 : decide (sv < 0) = true := decide_eq_true hs
    rw [if_pos (.inr (.inr (.inr hs)))] at hq
    have HQ := Lib.hid hq
    clear hc h4 e hn htl hsv hq
    go_enter Try.func30, Try.ntmps30
    go_wp2_with fail
    refine (HS.out _).mono ?_
    rintro e w1 ⟨rfl, rfl⟩
    go_wp2_with fail
    go_ret2
    exact rprogV_none HQ.out rfl rfl
  have d4 : decide (sv < 0) = false := decide_eq_false hs
  by_cases hl : b.toNat = n
  · have d3 : ((b.toNat : Int) != (n : Int)) = false := by simp [hl]
    rw [if_neg (by omega)] at hq
    have HQ := Lib.hid hq
    clear hc h4 e hn htl hsv hq hl
    go_enter Try.func30, Try.ntmps30
    go_wp2_with fail
    refine (HS.out _).mono ?_
    rintro e w1 ⟨rfl, rfl⟩
    go_wp2_with fail
    refine wp_region_held_drew (S := (fun w' => w'.cell? ⟨gb, o, none⟩ = some (.int .u8 (a.toNat : Int)) ∧ Byt w' B (.slice (some ⟨gb, o + 2, none⟩) n (c - 2)) ys ∧ Below w.heap.size w w')) (by kernel_rfl) ?_ (fun hHeld => ?_)
    · exact ⟨hcell0, byt_drewN HT.out 1, (⟨rfl, rfl, rfl, Nat.le_refl _, fun _ _ => rfl⟩ : Below w.heap.size w w.drew)⟩
    refine wpAnyH_take (i := 0) (oi := { dst := some 29, op := Go.Op.move (Go.Operand.tmp 0), type := 22, pos := "ref.go:176", after := #[], guard := none }) (v := ?av0) rfl (by kernel_rfl) (by kernel_rfl) (by kernel_rfl) (fun _ _ _ h => h) (Or.inl ⟨by rfl, ?ay0⟩) (by assumption) ?ar0
    case ay0 => (intro w hSw; (try dsimp only at hSw); go_simp; try (with_reducible rfl))
    case ar0 =>
    try simp only [Act.put, List.setIfInBounds_toArray, List.set_cons_zero, List.set_cons_succ]
    refine wpAnyH_take (i := 1) (oi := { dst := some 30, op := Go.Op.indexAddr 22 (Go.Operand.tmp 29) (Go.Operand.const (Go.Value.int Go.IntKind.i64 0)), type := 0, pos := "ref.go:176", after := #[{ on := 0, ground := Go.Ground.data }], guard := none }) (v := ?av1) rfl (by kernel_rfl) (by kernel_rfl) (by kernel_rfl) (fun _ _ _ h => h) (Or.inl ⟨by rfl, ?ay1⟩) (by assumption) ?ar1
    case ay1 => (intro w hSw; (try dsimp only at hSw); go_simp; try (with_reducible rfl))
    case ar1 =>
    try simp only [Act.put, List.setIfInBounds_toArray, List.set_cons_zero, List.set_cons_succ]
    refine wpAnyH_take (i := 2) (oi := { dst := some 31, op := Go.Op.load 5 (Go.Operand.tmp 30), type := 5, pos := "ref.go:176", after := #[{ on := 1, ground := Go.Ground.data }], guard := none }) (v := ?av2) rfl (by kernel_rfl) (by kernel_rfl) (by kernel_rfl) (fun _ _ _ h => h) (Or.inl ⟨by rfl, ?ay2⟩) (by assumption) ?ar2
    case ay2 => (intro w hSw; (try dsimp only at hSw); go_simp; try (with_reducible rfl))
    case ar2 =>
    try simp only [Act.put, List.setIfInBounds_toArray, List.set_cons_zero, List.set_cons_succ]
    refine wpAnyH_take (i := 4) (oi := { dst := some 33, op := Go.Op.move (Go.Operand.tmp 0), type := 22, pos := "ref.go:176", after := #[], guard := none }) (v := ?av4) rfl (by kernel_rfl) (by kernel_rfl) (by kernel_rfl) (fun _ _ _ h => h) (Or.inl ⟨by rfl, ?ay4⟩) (by assumption) ?ar4
    case ay4 => (intro w hSw; (try dsimp only at hSw); go_simp; try (with_reducible rfl))
    case ar4 =>
    try simp only [Act.put, List.setIfInBounds_toArray, List.set_cons_zero, List.set_cons_succ]
    refine wpAnyH_take (i := 5) (oi := { dst := some 34, op := Go.Op.slice 22 (Go.Operand.tmp 33) (some (Go.Operand.const (Go.Value.int Go.IntKind.i64 2))) none none, type := 22, pos := "ref.go:176", after := #[{ on := 4, ground := Go.Ground.data }], guard := none }) (v := ?av5) rfl (by kernel_rfl) (by kernel_rfl) (by kernel_rfl) (fun _ _ _ h => h) (Or.inl ⟨by rfl, ?ay5⟩) (by assumption) ?ar5
    case ay5 => (intro w hSw; (try dsimp only at hSw); go_simp; try (with_reducible rfl))
    case ar5 =>
    try simp only [Act.put, List.setIfInBounds_toArray, List.set_cons_zero, List.set_cons_succ]
    refine wpAnyH_ready (rs := [3]) (by kernel_rfl) (by simp) ?_
    refine AllReadyH.cons (o := { dst := some 32, op := Go.Op.call { callee := Go.Callee.value (Go.Operand.func 68), args := #[Go.Operand.tmp 31], argTypes := #[5] }, type := 3, pos := "ref.go:176", after := #[{ on := 2, ground := Go.Ground.data }], guard := none }) rfl (fun K hK => ?_) (AllReadyH.nil)
    go_simp
    refine (HS.out _).mono ?_
    rintro e w4 ⟨rfl, rfl⟩
    go_simp
    refine hK.out _ _ ?_ (fun hHeld => ?_)
    · exact hHeld
    clear hK K
    try simp only [Act.put, List.setIfInBounds_toArray, List.set_cons_zero, List.set_cons_succ]
    refine wpAnyH_ready (rs := [6]) (by kernel_rfl) (by simp) ?_
    refine AllReadyH.cons (o := { dst := some 35, op := Go.Op.call { callee := Go.Callee.value (Go.Operand.func 37), args := #[Go.Operand.tmp 34], argTypes := #[22] }, type := 22, pos := "ref.go:176", after := #[{ on := 5, ground := Go.Ground.data }, { on := 3, ground := Go.Ground.chain }], guard := none }) rfl (fun K hK => ?_) (AllReadyH.nil)
    go_simp
    refine (rcopy_any B _ ys _ hHeld.2.1 (by have := HN.out; omega)).mono ?_
    intro e w6 hfr
    obtain ⟨u6, rfl, hown6, hb6⟩ := fresh_v hfr
    have HO := Lib.hid (own_base hown6 hHeld.2.2.size)
    go_simp
    refine hK.out _ _ ?_ (fun hHeld => ?_)
    · exact ⟨(hb6.cell (p := ⟨gb, o, none⟩) (by have := hHeld.2.2.size; show gb < _; omega)).trans hHeld.1, hHeld.2.1.below (hb6.mono (Nat.le_trans hB hHeld.2.2.size)), hHeld.2.2.trans (hb6.mono hHeld.2.2.size)⟩
    clear hK K
    try simp only [Act.put, List.setIfInBounds_toArray, List.set_cons_zero, List.set_cons_succ]
    refine wpAnyH_take (i := 7) (oi := { dst := some 2, op := Go.Op.assign (Go.Operand.tmp 32), type := 3, pos := "ref.go:176", after := #[{ on := 3, ground := Go.Ground.data }, { on := 6, ground := Go.Ground.chain }, { on := 0, ground := Go.Ground.phase }, { on := 1, ground := Go.Ground.phase }, { on := 2, ground := Go.Ground.phase }, { on := 3, ground := Go.Ground.phase }, { on := 4, ground := Go.Ground.textOnly Go.Departure.lateStores }, { on := 5, ground := Go.Ground.textOnly Go.Departure.lateStoresUnsure }, { on := 6, ground := Go.Ground.textOnly Go.Departure.lateStoresUnsure }], guard := none }) (v := ?a_3_6v7) rfl (by kernel_rfl) (by kernel_rfl) (by kernel_rfl) (fun _ _ _ h => h) (Or.inl ⟨by rfl, ?a_3_6y7⟩) (by assumption) ?a_3_6r7
    case a_3_6y7 => (intro w hSw; (try dsimp only at hSw); go_simp; try (with_reducible rfl))
    case a_3_6r7 =>
    try simp only [Act.put, List.setIfInBounds_toArray, List.set_cons_zero, List.set_cons_succ]
    refine wpAnyH_take (i := 8) (oi := { dst := some 3, op := Go.Op.assign (Go.Operand.tmp 35), type := 22, pos := "ref.go:176", after := #[{ on := 6, ground := Go.Ground.data }, { on := 7, ground := Go.Ground.chain }, { on := 0, ground := Go.Ground.phase }, { on := 1, ground := Go.Ground.phase }, { on := 2, ground := Go.Ground.phase }, { on := 3, ground := Go.Ground.phase }, { on := 4, ground := Go.Ground.phase }, { on := 5, ground := Go.Ground.phase }, { on := 6, ground := Go.Ground.phase }, { on := 7, ground := Go.Ground.phase }], guard := none }) (v := ?a_3_6v8) rfl (by kernel_rfl) (by kernel_rfl) (by kernel_rfl) (fun _ _ _ h => h) (Or.inl ⟨by rfl, ?a_3_6y8⟩) (by assumption) ?a_3_6r8
    case a_3_6y8 => (intro w hSw; (try dsimp only at hSw); go_simp; try (with_reducible rfl))
    case a_3_6r8 =>
    try simp only [Act.put, List.setIfInBounds_toArray, List.set_cons_zero, List.set_cons_succ]
    refine wpAnyH_done (by kernel_rfl) ?_ _
    have HF := Lib.hid hHeld.2.2
    go_wp2_with fail
    go_ret2
    unfold RProgV
    rw [HQ.out]
    exact ⟨_, rfl, HO.out, HF.out⟩
  · have d3 : ((b.toNat : Int) != (n : Int)) = true := by simp only [bne_iff_ne, ne_eq]; omega
    rw [if_pos (.inr (.inr (.inl hl)))] at hq
    have HQ := Lib.hid hq
    clear hc h4 e hn htl hsv hq hl
    go_enter Try.func30, Try.ntmps30
    go_wp2_with fail
    refine (HS.out _).mono ?_
    rintro e w1 ⟨rfl, rfl⟩
    go_wp2_with fail
    go_ret2
    exact rprogV_none HQ.out rfl rfl
theorem rprog_any (B : Nat) (x : Value) (xs : List UInt8) (w : World) (hx : Byt w B x xs) (hB : B ≤ w.heap.size) :
    Calls Try.prog 30 #[x] w (RProgV w xs) := by
  by_cases h4 : xs.length < 4
  · refine (rprog_len B x xs w hx (.inl h4)).mono fun e w' ⟨he, hw⟩ => rprogV_none ?_ he hw
    match xs, h4 with
    | [], _ => rfl
    | [_], _ => rfl
    | a :: b :: ys, h4 => rw [progB_two, if_pos (.inl (by simp at h4; omega))]
  · match xs, h4, hx with
    | [], h4, _ => simp at h4
    | [_], h4, _ => simp at h4
    | a :: b :: ys, h4, hx =>
      have h2 : 2 ≤ ys.length := by simp at h4; omega
      by_cases h40 : 40 < ys.length
      · exact (rprog_len B x _ w hx (.inr (by simp; omega))).mono fun e w' ⟨he, hw⟩ => rprogV_none (by rw [progB_two, if_pos (.inr (.inl h40))]) he hw
      · exact rprog_in B x a b ys w hx hB h2 (by omega)
end Go.Proofs.Ytpfobbhoahnebaa

/-
  What a script is, as a function of its bytes; the two readings of its forms agree. Conditions: none.
-/
namespace Go.Proofs.Ytpfobbhoahnebaa
open Go.RowKit

theorem parse_first {xs : List UInt8} {o : UInt8 × List UInt8} {ops : List (UInt8 × List UInt8)} (h : parseP xs = some (o :: ops)) :
    ∃ c rest, xs = c :: rest ∧ (opR c rest).2.1 = 0 ∧ parseP (opR c rest).2.2 = some ops ∧ o = (c, (opR c rest).1) := by
  match xs, h with
  | [], h => rw [parseP_nil] at h; cases h
  | c :: rest, h =>
    by_cases h0 : (opR c rest).2.1 = 0
    · rw [parseP_ok h0] at h
      obtain ⟨ops', h1, h2⟩ := Option.map_eq_some_iff.1 h
      obtain ⟨e1, e2⟩ := List.cons.inj h2
      exact ⟨c, rest, rfl, h0, by rw [h1, e2], e1.symm⟩
    · rw [parseP_bad h0] at h
      cases h
theorem parse_end {xs : List UInt8} (h : parseP xs = some []) : xs = [] := by
  match xs, h with
  | [], _ => rfl
  | c :: rest, h =>
    by_cases h0 : (opR c rest).2.1 = 0
    · rw [parseP_ok h0] at h
      obtain ⟨ops', _, h2⟩ := Option.map_eq_some_iff.1 h
      cases h2
    · rw [parseP_bad h0] at h
      cases h
theorem op_data {c : UInt8} {xs : List UInt8} (h : c.toNat < 76) (h0 : (opR c xs).2.1 = 0) : ∃ ds rest, xs = ds ++ rest ∧ ds.length = c.toNat ∧ opR c xs = (ds, 0, rest) := by
  have e : opR c xs = rawR (c.toNat : Int) 0 xs := by unfold opR sizeD; rw [if_pos h]
  rw [e] at h0 ⊢
  unfold rawR at h0 ⊢
  rw [if_neg (by decide)] at h0 ⊢
  split at h0
  · cases h0
  · rename_i hn
    rw [if_neg hn, Int.toNat_natCast]
    exact ⟨xs.take c.toNat, xs.drop c.toNat, (List.take_append_drop _ _).symm, by rw [List.length_take]; omega, rfl⟩
/-- A code from 79 on stands for itself. -/
theorem first_code {xs : List UInt8} {o : UInt8 × List UInt8} {ops : List (UInt8 × List UInt8)} (h : parseP xs = some (o :: ops)) (hc : 79 ≤ o.1.toNat) : ∃ rest, xs = o.1 :: rest ∧ parseP rest = some ops ∧ o.2 = [] := by
  obtain ⟨c, rest, hx, h0, h1, rfl⟩ := parse_first h
  rw [opR_none (.inr hc)] at h1
  exact ⟨rest, hx, h1, by show (opR c rest).1 = []; rw [opR_none (.inr hc)]⟩
/-- A code below 76 stands before as many bytes. -/
theorem first_data {xs : List UInt8} {o : UInt8 × List UInt8} {ops : List (UInt8 × List UInt8)} (h : parseP xs = some (o :: ops)) (hc : o.1.toNat < 76) : ∃ rest, xs = o.1 :: (o.2 ++ rest) ∧ parseP rest = some ops ∧ o.2.length = o.1.toNat := by
  obtain ⟨c, rest, hx, h0, h1, rfl⟩ := parse_first h
  obtain ⟨ds, r, e1, e2, e3⟩ := op_data hc h0
  rw [e3] at h1
  refine ⟨r, ?_, h1, ?_⟩
  · show xs = c :: ((opR c rest).1 ++ r)
    rw [e3, hx, e1]
  · show (opR c rest).1.length = _
    rw [e3]
    exact e2

theorem key_back {xs : List UInt8} {ops : List (UInt8 × List UInt8)} (h : parseP xs = some ops) (hc : ops.map (·.1) = [118, 169, 20, 136, 172]) : ∃ hs, hs.length = 20 ∧ xs = keyForm hs ∧ ops = [(118, []), (169, []), (20, hs), (136, []), (172, [])] := by
  match ops, hc, h with
  | [(c0, d0), (c1, d1), (c2, d2), (c3, d3), (c4, d4)], hc, h =>
    simp only [List.map_cons, List.map_nil, List.cons.injEq, and_true] at hc
    obtain ⟨rfl, rfl, rfl, rfl, rfl⟩ := hc
    obtain ⟨r1, e1, h1, f1⟩ := first_code h (show 79 ≤ (118 : UInt8).toNat by decide)
    obtain ⟨r2, e2, h2, f2⟩ := first_code h1 (show 79 ≤ (169 : UInt8).toNat by decide)
    obtain ⟨r3, e3, h3, f3⟩ := first_data h2 (show (20 : UInt8).toNat < 76 by decide)
    obtain ⟨r4, e4, h4, f4⟩ := first_code h3 (show 79 ≤ (136 : UInt8).toNat by decide)
    obtain ⟨r5, e5, h5, f5⟩ := first_code h4 (show 79 ≤ (172 : UInt8).toNat by decide)
    have e6 := parse_end h5
    dsimp only at e1 e2 e3 e4 e5 f1 f2 f3 f4 f5
    subst f1 f2 f4 f5
    refine ⟨d2, f3, ?_, rfl⟩
    rw [e1, e2, e3, e4, e5, e6]
    unfold keyForm
    simp
theorem script_back {xs : List UInt8} {ops : List (UInt8 × List UInt8)} (h : parseP xs = some ops) (hc : ops.map (·.1) = [169, 20, 135]) : ∃ hs, hs.length = 20 ∧ xs = scriptForm hs ∧ ops = [(169, []), (20, hs), (135, [])] := by
  match ops, hc, h with
  | [(c0, d0), (c1, d1), (c2, d2)], hc, h =>
    simp only [List.map_cons, List.map_nil, List.cons.injEq, and_true] at hc
    obtain ⟨rfl, rfl, rfl⟩ := hc
    obtain ⟨r1, e1, h1, f1⟩ := first_code h (show 79 ≤ (169 : UInt8).toNat by decide)
    obtain ⟨r2, e2, h2, f2⟩ := first_data h1 (show (20 : UInt8).toNat < 76 by decide)
    obtain ⟨r3, e3, h3, f3⟩ := first_code h2 (show 79 ≤ (135 : UInt8).toNat by decide)
    have e6 := parse_end h3
    dsimp only at e1 e2 e3 f1 f2 f3
    subst f1 f3
    refine ⟨d1, f2, ?_, rfl⟩
    rw [e1, e2, e3, e6]
    unfold scriptForm
    simp
/-- Where the last operation's code is from 79 on, it is the last byte. -/
theorem last_code {xs : List UInt8} {ops : List (UInt8 × List UInt8)} {o : UInt8 × List UInt8} (h : parseP xs = some (ops ++ [o])) (hc : 79 ≤ o.1.toNat) : ∃ fr, xs = fr ++ [o.1] := by
  induction ops generalizing xs with
  | nil =>
    obtain ⟨rest, e, h1, _⟩ := first_code h hc
    rw [parse_end h1] at e
    exact ⟨[], e⟩
  | cons p ops ih =>
    obtain ⟨c, rest, hx, h0, h1, _⟩ := parse_first h
    obtain ⟨fr, e⟩ := ih h1
    have hs : ∃ z, rest = z ++ (opR c rest).2.2 := by
      unfold opR rawR
      have hz : ∃ z, rest = z ++ (sizeD c rest).2.2 := by
        unfold sizeD
        split
        · exact ⟨[], rfl⟩
        split
        · unfold numR; rw [if_neg (by decide)]; split; exact ⟨[], rfl⟩; exact ⟨_, (List.take_append_drop _ _).symm⟩
        split
        · unfold numR; rw [if_neg (by decide)]; split; exact ⟨[], rfl⟩; exact ⟨_, (List.take_append_drop _ _).symm⟩
        split
        · show ∃ z, rest = z ++ (numR 4 0 rest).2.2
          unfold numR; rw [if_neg (by decide)]; split; exact ⟨[], rfl⟩; exact ⟨_, (List.take_append_drop _ _).symm⟩
        · exact ⟨[], rfl⟩
      obtain ⟨z, hz⟩ := hz
      split
      · exact ⟨z, hz⟩
      split
      · exact ⟨z, hz⟩
      · exact ⟨z ++ (sizeD c rest).2.2.take (sizeD c rest).1.toNat, by rw [List.append_assoc, List.take_append_drop]; exact hz⟩
    obtain ⟨z, hz⟩ := hs
    exact ⟨c :: (z ++ fr), by rw [hx, hz, e]; simp⟩

/-- What a script is, and its parts. -/
def dataB (xs : List UInt8) : Int × List (List UInt8) := match xs with
  | [] => (0, [])
  | c :: t => if c = 106 ∧ pushesB t = true then (6, [t]) else (0, [])
def keysB (ops : List (UInt8 × List UInt8)) : List (List UInt8) := [b8 (smallB ((ops.map (·.1)).getD 0 0))] :: ((ops.drop 1).take (ops.length - 3)).map (·.2)
def opsB (xs : List UInt8) (ops : List (UInt8 × List UInt8)) : Int × List (List UInt8) :=
  if ops.map (·.1) = [118, 169, 20, 136, 172] then (1, [(ops.getD 2 (0, [])).2])
  else if ops.map (·.1) = [169, 20, 135] then (2, [(ops.getD 1 (0, [])).2])
  else if multiB (ops.map (·.1)) = true then (5, keysB ops)
  else dataB xs
def witB (v : Int) (p : List UInt8) : Int × List (List UInt8) := if v = 0 ∧ p.length = 20 then (3, [p]) else if v = 0 ∧ p.length = 32 then (4, [p]) else (7, [[b8 v], p])
def kindB (xs : List UInt8) : Int × List (List UInt8) :=
  match progB xs with
  | some q => witB q.1 q.2
  | none => match parseP xs with
    | some ops => opsB xs ops
    | none => (0, [])
theorem dataB_none {xs : List UInt8} (h : parseP xs = none) : dataB xs = (0, []) := by
  unfold dataB
  match xs, h with
  | [], _ => rfl
  | c :: t, h =>
    show (if c = 106 ∧ pushesB t = true then ((6, [t]) : Int × List (List UInt8)) else (0, [])) = (0, [])
    rw [if_neg]
    rintro ⟨rfl, hp⟩
    rw [parse_code (by decide)] at h
    unfold pushesB at hp
    cases ht : parseP t with
    | none => rw [ht] at hp; cases hp
    | some o => rw [ht] at h; cases h
end Go.Proofs.Ytpfobbhoahnebaa

/-
  script.multiParts again: its row and its first part are the call's own. Conditions: none.
-/
namespace Go.Proofs.Ytpfobbhoahnebaa
open Go.RowKit

set_option maxRecDepth 100000 in
set_option maxHeartbeats 6400000 in
theorem multiOwn_any (B N : Nat) (x : Value) (L : List Piece) (p0 : Piece) (w : World) (hx : OpsR w B x L) (hd : ∀ p ∈ L, Byt w B p.at_ p.data) (hB : B ≤ w.heap.size) (hN : L.length = N + 3) (hNb : N ≤ 60000000) (hp0 : L[0]? = some p0) (h1 : 1 ≤ smallB p0.code) :
    Calls Try.prog 65 #[x] w fun e w' => ∃ v a0, e = .returned v ∧ w'.ownsRow (w.heap.size + 1) 22 1 v (N + 1) ((partsL a0 (smallB p0.code) ((L.drop 1).take N)).map (·.1)) ∧ OwnB w' w.heap.size a0 [b8 (smallB p0.code)] ∧ a0.ownBlock = some w.heap.size ∧ Below w.heap.size w w' := by
  obtain ⟨A', c, rfl, hl1, hl2, h3⟩ := hx
  obtain ⟨b, o, rfl, hb, hc⟩ := h3 (by rintro rfl; simp at hN)
  have q0 : w.cell? ⟨b, o, none⟩ = some (.int .u8 (p0.code.toNat : Int)) := (hc 0 _ hp0).1
  have HSUB := Lib.hid (ops_drop ⟨_, _, rfl, hl1, hl2, fun _ => ⟨b, o, rfl, hb, hc⟩⟩ hN)
  obtain ⟨M, hM⟩ : ∃ M, M = (L.drop 1).take N := ⟨_, rfl⟩
  have hML : M.length = N := by rw [hM]; simp; omega
  have hMd : ∀ p ∈ M, Byt w B p.at_ p.data := fun p hp => hd p (by rw [hM] at hp; exact List.mem_of_mem_drop (List.mem_of_mem_take hp))
  rw [← hM] at HSUB ⊢
  rw [hN] at hl1 ⊢
  unfold maxLen at hl2
  have HS0 := Lib.hid (fun W => small_any p0.code W)
  have sb0 := smallB_bd p0.code
  obtain ⟨s0, hs0⟩ : ∃ s, s = smallB p0.code := ⟨_, rfl⟩
  obtain ⟨u0, hu0⟩ : ∃ s : Int, s = (p0.code.toNat : Int) := ⟨_, rfl⟩
  rw [← hu0] at q0 HS0
  rw [← hs0] at HS0 sb0 h1 ⊢
  have hsl := run_subops b o N c hl1
  have hw : IntKind.i64.wrap ((N : Int) + 3 - 2) = (N : Int) + 1 := by rw [show (N : Int) + 3 - 2 = (N : Int) + 1 by omega]; exact IntWalk.i64_in _ (by omega)
  have hw8 : IntKind.u8.wrap s0 = s0 := by rw [IntKind.wrap_u8]; omega
  have i0' : (0 : Int) < (N : Int) + 3 := by omega
  have HMD := Lib.hid hMd
  have hmade := Byt.made w 5 [.int .u8 s0] [b8 s0] (by rw [List.map_cons, bv_b8_of (by omega) (by omega)]; rfl) (by unfold maxLen; simp)
  have hownm := own_made w 5 [.int .u8 s0] [b8 s0] (by rw [List.map_cons, bv_b8_of (by omega) (by omega)]; rfl) (by unfold maxLen; simp)
  obtain ⟨W0, hW0⟩ : ∃ W0, W0 = w.alloc (.cells #[.int .u8 s0] 5) := ⟨_, rfl⟩
  have hownm0 : OwnB W0 w.heap.size (.slice (some ⟨w.heap.size, 0, none⟩) 1 1) [b8 s0] := by rw [hW0]; exact hownm
  have HOWNM := Lib.hid hownm0
  have hmade0 : Byt W0 (w.heap.size + 1) (.slice (some ⟨w.heap.size, 0, none⟩) 1 1) [b8 s0] := by rw [hW0]; exact hmade
  have HMADE := Lib.hid hmade0
  have hb0 : Below w.heap.size w W0 := by rw [hW0]; exact byt_below _ _ (Nat.le_refl _)
  have hz0 : W0.heap.size = w.heap.size + 1 := by rw [hW0]; simp
  have HB0 := Lib.hid hb0
  have HZ0 := Lib.hid hz0
  have hrow : (W0.alloc (.cells #[.slice (some ⟨w.heap.size, 0, none⟩) 1 1] 22)).ownsRow (w.heap.size + 1) 22 1 (.slice (some ⟨W0.heap.size, 0, none⟩) 1 1) 1 [.slice (some ⟨w.heap.size, 0, none⟩) 1 1] :=
    ⟨by simp, .inr ⟨W0.heap.size, 1, _, rfl, by omega, heap_alloc_new W0 _, Nat.le_refl _, by unfold maxLen; omega, rfl, rfl⟩⟩
  rw [hz0] at hrow
  have HROW := Lib.hid hrow
  have HBR := Lib.hid (show Below (w.heap.size + 1) W0 (W0.alloc (.cells #[.slice (some ⟨w.heap.size, 0, none⟩) 1 1] 22)) from byt_below _ _ (by omega))
  rw [hW0] at HROW HBR
  clear hc h3 hM hN hp0 hs0 hu0 hMd hd hmade hmade0 hb0 hz0 hrow hownm hownm0
  go_enter Try.func65, Try.ntmps65
  go_wp2_with fail
  refine (HS0.out _).mono ?_
  rintro e w1 ⟨rfl, rfl⟩
  go_wp2_with fail
  rw [← hW0] at HROW HBR ⊢
  go_loopw [3, 20] (fun s t wr => ∃ (k : Nat) (v : Value), v = s ∧ k ≤ N ∧ t = .int .i64 (k : Int) ∧ Hid (wr.ownsRow (w.heap.size + 1) 22 1 v (k + 1) ((.slice (some ⟨w.heap.size, 0, none⟩) 1 1) :: (M.take k).map Piece.at_)) ∧ Hid (Below (w.heap.size + 1) W0 wr)) (fun _ t _ => N - (intOf t).toNat)
  case atStart => exact ⟨0, _, rfl, Nat.zero_le _, rfl, HROW, HBR⟩
  case round =>
    obtain ⟨k, v, hv, hk, rfl, hown, hbel⟩ := hrel
    subst hv
    by_cases hlt : k < N
    · obtain ⟨A', c', e0, _, _, h4⟩ := HSUB.out
      obtain ⟨e1, e2, e3⟩ := Value.slice.inj e0
      subst e3
      obtain ⟨b', o', e', hb', hc⟩ := h4 (by rintro rfl; simp at hML; omega)
      rw [← e1] at e'
      injection e' with e'
      obtain ⟨e1', e2', _⟩ := Addr.mk.inj e'
      subst e1' e2'
      obtain ⟨c0, c1, Ap, cp, hp⟩ := hc k _ (List.getElem?_eq_getElem (show k < M.length by omega))
      have hsn : (M.take (k + 1)).map Piece.at_ = (M.take k).map Piece.at_ ++ [M[k].at_] := by rw [List.take_succ_eq_append_getElem (by omega), List.map_append]; rfl
      obtain ⟨q, hq⟩ : ∃ q, q = M[k] := ⟨_, rfl⟩
      rw [← hq] at c0 c1 hp hsn
      have hbw : Below w.heap.size w wr := HB0.out.trans (hbel.out.mono (by omega))
      have r0 : wr.cell? ⟨b, o + 2 + k * 2, none⟩ = some (.int .u8 (q.code.toNat : Int)) := (hbw.cell (p := ⟨b, _, none⟩) (by show b < _; omega)).trans c0
      have r1 : wr.cell? ⟨b, o + 2 + k * 2 + 1, none⟩ = some (.slice Ap q.data.length cp) := (hbw.cell (p := ⟨b, _, none⟩) (by show b < _; omega)).trans (c1.trans (by rw [hp]))
      have HSN := Lib.hid hsn
      have HQ := Lib.hid hp
      have hdk : decide (k < N) = true := decide_eq_true hlt
      clear hc h4 e0 e1 e2 e' c0 c1 hq hp hsn hbw
      have hown2 : ((wr.alloc (.cells #[.int .u8 (q.code.toNat : Int), .slice Ap q.data.length cp] 37)).alloc (.cells #[.slice Ap q.data.length cp] 22)).ownsRow (w.heap.size + 1) 22 1 v (k + 1) ((.slice (some ⟨w.heap.size, 0, none⟩) 1 1) :: (M.take k).map Piece.at_) := World.ownsRow.alloc (World.ownsRow.alloc hown.out _) _
      have OWN2 := Lib.hid hown2
      have hs1 : w.heap.size + 1 ≤ wr.heap.size := by have := hbel.out.size; have := HZ0.out; omega
      have HS1 := Lib.hid hs1
      have CELL := Lib.hid (cell_two wr (.cells #[.int .u8 (q.code.toNat : Int), .slice Ap q.data.length cp] 37) (.slice Ap q.data.length cp) 22)
      have BEL2 := Lib.hid ((hbel.out.alloc (by omega) (.cells #[.int .u8 (q.code.toNat : Int), .slice Ap q.data.length cp] 37)).alloc (by simp; omega) (.cells #[.slice Ap q.data.length cp] 22))
      clear hown2 hs1
      go_wp2_with (at_builtin; refine wpList_append_bag rfl (.tmp 24) (.tmp 27) rfl (w.heap.size + 1) _ (k + 1) _ rfl OWN2.out (wr.heap.size + 1) (.slice Ap q.data.length cp) rfl CELL.out rfl (by omega) (by have := HS1.out; simp; omega) ?_; intro v5 w5 hown5 hg5)
      have ho5 : w5.ownsRow (w.heap.size + 1) 22 1 v5 (k + 1 + 1) ((.slice (some ⟨w.heap.size, 0, none⟩) 1 1) :: (M.take (k + 1)).map Piece.at_) := by rw [HSN.out, HQ.out]; exact hown5
      have hb5 : Below (w.heap.size + 1) W0 w5 := BEL2.out.grown hg5 (by have := HS1.out; simp; omega) (fun j hj => (World.ownsRow.lt OWN2.out j hj).1)
      have HO5 := Lib.hid ho5
      have HB5 := Lib.hid hb5
      clear hown5 hg5 ho5 hb5
      go_roundw
      case rel => exact ⟨k + 1, _, rfl, by omega, by go_num, HO5, HB5⟩
      case measure => simp [intOf]; omega
    · obtain rfl : k = N := by omega
      have ho := hown.out
      rw [List.take_of_length_le (by omega)] at ho
      have HO := Lib.hid ho
      clear ho
      go_wp2_with fail
      go_ret
      have hbw : Below w.heap.size w wr := HB0.out.trans (hbel.out.mono (by omega))
      refine ⟨v, .slice (some ⟨w.heap.size, 0, none⟩) 1 1, rfl, ?_, ?_, rfl, hbw⟩
      · unfold partsL
        rw [List.map_cons, List.map_map]
        exact HO.out
      · exact own_turns HOWNM.out (Turns.of_below (S := fun _ => False) (by rw [HZ0.out]; exact hbel.out)) (fun _ _ h => h)
end Go.Proofs.Ytpfobbhoahnebaa
