/-
  script.multiParts: how many must sign, and the keys. Conditions: none.
-/
import Derived.Test.YtadgaeokiolmmaaSnMulti
namespace Go.Proofs.Ytadgaeokiolmmaa
open Go.RowKit

theorem run_subops (b o N c : Nat) (hc : N + 3 ≤ c) (W : World) :
    (Instr.slice 27 (.slice (some ⟨b, o, none⟩) (N + 3) c) (some (.int .i64 1)) (some (.int .i64 ((N : Int) + 1))) none).run Try.prog W = .ok (.slice (some ⟨b, o + 2, none⟩) N (c - 1)) W := by
  obtain ⟨i0, hi, hz0, hz1, hz2⟩ := info_parts info_op
  have he : Try.prog.elem 27 = 37 := by kernel_rfl
  have ht : Try.prog.underlying 27 = some (.slice (Try.prog.elem 27)) := by rw [he]; exact slice_op
  rw [run_slice_lh (ht := ht) (h0 := by omega) (h1 := by omega) (h2 := by omega), he]
  have h1 : ((N : Int) + 1).toNat = N + 1 := by omega
  have h2 : ¬ c = 1 := by omega
  have hadd : (⟨b, o, none⟩ : Addr).add 2 = ⟨b, o + 2, none⟩ := by unfold Addr.add; split <;> simp_all
  simp [sizeOf, typeInfo, hi, hz1, sliced, go_sem, h1, h2]

theorem row_bag {w : World} {base : Nat} {v : Value} {L : List (Value × List UInt8)} (h : w.ownsRow base 22 1 v L.length (L.map (·.1))) (hd : ∀ p ∈ L, Byt w w.heap.size p.1 p.2) : BagR w w.heap.size v L := by
  refine ⟨?_, hd⟩
  rcases h.2 with ⟨rfl, hn⟩ | ⟨g, cap, cur, rfl, hb, hg, hnc, hcm, hcs, ht⟩
  · obtain rfl : L = [] := List.eq_nil_of_length_eq_zero hn
    exact ⟨none, 0, rfl, Nat.le_refl _, by unfold maxLen; omega, fun h => absurd rfl h⟩
  · refine ⟨some ⟨g, 0, none⟩, cap, rfl, hnc, hcm, fun hne => ⟨g, 0, rfl, (h.lt g rfl).2, fun i p hp => ?_⟩⟩
    have hi := (List.getElem?_eq_some_iff.1 hp).1
    rw [Nat.zero_add]
    refine (World.ownsRow.cellAt h i (by omega)).trans ?_
    rw [List.getElem?_map, hp]
    rfl
theorem cell_two (w : World) (o : Obj) (u : Value) (t : TypeId) : ((w.alloc o).alloc (.cells #[u] t)).cell? ⟨w.heap.size + 1, 0, none⟩ = some u := by
  have h := cell_of_row _ (w.alloc o).heap.size 0 _ _ _ (heap_alloc_new (w.alloc o) (.cells #[u] t))
  rw [World.size_alloc] at h
  exact h

def partsL (a0 : Value) (s0 : Int) (M : List Piece) : List (Value × List UInt8) := (a0, [b8 s0]) :: M.map (fun p => (p.at_, p.data))

set_option maxRecDepth 100000 in
set_option maxHeartbeats 6400000 in
theorem multiParts_any (B N : Nat) (x : Value) (L : List Piece) (p0 : Piece) (w : World) (hx : OpsR w B x L) (hd : ∀ p ∈ L, Byt w B p.at_ p.data) (hB : B ≤ w.heap.size) (hN : L.length = N + 3) (hNb : N ≤ 60000000) (hp0 : L[0]? = some p0) (h1 : 1 ≤ smallB p0.code) :
    Calls Try.prog 65 #[x] w fun e w' => ∃ v a0, e = .returned v ∧ BagR w' w'.heap.size v (partsL a0 (smallB p0.code) ((L.drop 1).take N)) ∧ Below w.heap.size w w' := by
  obtain ⟨A', c, rfl, hl1, hl2, h3⟩ := hx
  obtain ⟨b, o, rfl, hb, hc⟩ := h3 (by rintro rfl; simp at hN)
  have q0 : w.cell? ⟨b, o, none⟩ = some (.int .u8 (p0.code.toNat : Int)) := (hc 0 _ hp0).1
  have HSUB := Lib.hid (ops_drop ⟨_, _, rfl, hl1, hl2, fun _ => ⟨b, o, rfl, hb, hc⟩⟩ hN)
  obtain ⟨M, hM⟩ : ∃ M, M = (L.drop 1).take N := ⟨_, rfl⟩
  have hML : M.length = N := by rw [hM]; simp; omega
  have hMd : ∀ p ∈ M, Byt w B p.at_ p.data := fun p hp => hd p (by rw [hM] at hp; exact List.mem_of_mem_drop (List.mem_of_mem_take hp))
  rw [← hM] at HSUB ⊢
  rw [hN] at hl1 ⊢
  unfold maxLen at hl2
  have HS0 := Lib.hid (fun W => small_any p0.code W)
  have sb0 := smallB_bd p0.code
  obtain ⟨s0, hs0⟩ : ∃ s, s = smallB p0.code := ⟨_, rfl⟩
  obtain ⟨u0, hu0⟩ : ∃ s : Int, s = (p0.code.toNat : Int) := ⟨_, rfl⟩
  rw [← hu0] at q0 HS0
  rw [← hs0] at HS0 sb0 h1 ⊢
  have hsl := run_subops b o N c hl1
  have hw : IntKind.i64.wrap ((N : Int) + 3 - 2) = (N : Int) + 1 := by rw [show (N : Int) + 3 - 2 = (N : Int) + 1 by omega]; exact IntWalk.i64_in _ (by omega)
  have hw8 : IntKind.u8.wrap s0 = s0 := by rw [IntKind.wrap_u8]; omega
  have i0' : (0 : Int) < (N : Int) + 3 := by omega
  have HMD := Lib.hid hMd
  have hmade := Byt.made w 5 [.int .u8 s0] [b8 s0] (by rw [List.map_cons, bv_b8_of (by omega) (by omega)]; rfl) (by unfold maxLen; simp)
  obtain ⟨W0, hW0⟩ : ∃ W0, W0 = w.alloc (.cells #[.int .u8 s0] 5) := ⟨_, rfl⟩
  have hmade0 : Byt W0 (w.heap.size + 1) (.slice (some ⟨w.heap.size, 0, none⟩) 1 1) [b8 s0] := by rw [hW0]; exact hmade
  have HMADE := Lib.hid hmade0
  have hb0 : Below w.heap.size w W0 := by rw [hW0]; exact byt_below _ _ (Nat.le_refl _)
  have hz0 : W0.heap.size = w.heap.size + 1 := by rw [hW0]; simp
  have HB0 := Lib.hid hb0
  have HZ0 := Lib.hid hz0
  have hrow : (W0.alloc (.cells #[.slice (some ⟨w.heap.size, 0, none⟩) 1 1] 22)).ownsRow (w.heap.size + 1) 22 1 (.slice (some ⟨W0.heap.size, 0, none⟩) 1 1) 1 [.slice (some ⟨w.heap.size, 0, none⟩) 1 1] :=
    ⟨by simp, .inr ⟨W0.heap.size, 1, _, rfl, by omega, heap_alloc_new W0 _, Nat.le_refl _, by unfold maxLen; omega, rfl, rfl⟩⟩
  rw [hz0] at hrow
  have HROW := Lib.hid hrow
  have HBR := Lib.hid (show Below (w.heap.size + 1) W0 (W0.alloc (.cells #[.slice (some ⟨w.heap.size, 0, none⟩) 1 1] 22)) from byt_below _ _ (by omega))
  rw [hW0] at HROW HBR
  clear hc h3 hM hN hp0 hs0 hu0 hMd hd hmade hmade0 hb0 hz0 hrow
  go_enter Try.func65, Try.ntmps65
  go_wp2_with fail
  refine (HS0.out _).mono ?_
  rintro e w1 ⟨rfl, rfl⟩
  go_wp2_with fail
  rw [← hW0] at HROW HBR ⊢
  go_loopw [3, 20] (fun s t wr => ∃ (k : Nat) (v : Value), v = s ∧ k ≤ N ∧ t = .int .i64 (k : Int) ∧ Hid (wr.ownsRow (w.heap.size + 1) 22 1 v (k + 1) ((.slice (some ⟨w.heap.size, 0, none⟩) 1 1) :: (M.take k).map Piece.at_)) ∧ Hid (Below (w.heap.size + 1) W0 wr)) (fun _ t _ => N - (intOf t).toNat)
  case atStart => exact ⟨0, _, rfl, Nat.zero_le _, rfl, HROW, HBR⟩
  case round =>
    obtain ⟨k, v, hv, hk, rfl, hown, hbel⟩ := hrel
    subst hv
    by_cases hlt : k < N
    · obtain ⟨A', c', e0, _, _, h4⟩ := HSUB.out
      obtain ⟨e1, e2, e3⟩ := Value.slice.inj e0
      subst e3
      obtain ⟨b', o', e', hb', hc⟩ := h4 (by rintro rfl; simp at hML; omega)
      rw [← e1] at e'
      injection e' with e'
      obtain ⟨e1', e2', _⟩ := Addr.mk.inj e'
      subst e1' e2'
      obtain ⟨c0, c1, Ap, cp, hp⟩ := hc k _ (List.getElem?_eq_getElem (show k < M.length by omega))
      have hsn : (M.take (k + 1)).map Piece.at_ = (M.take k).map Piece.at_ ++ [M[k].at_] := by rw [List.take_succ_eq_append_getElem (by omega), List.map_append]; rfl
      obtain ⟨q, hq⟩ : ∃ q, q = M[k] := ⟨_, rfl⟩
      rw [← hq] at c0 c1 hp hsn
      have hbw : Below w.heap.size w wr := HB0.out.trans (hbel.out.mono (by omega))
      have r0 : wr.cell? ⟨b, o + 2 + k * 2, none⟩ = some (.int .u8 (q.code.toNat : Int)) := (hbw.cell (p := ⟨b, _, none⟩) (by show b < _; omega)).trans c0
      have r1 : wr.cell? ⟨b, o + 2 + k * 2 + 1, none⟩ = some (.slice Ap q.data.length cp) := (hbw.cell (p := ⟨b, _, none⟩) (by show b < _; omega)).trans (c1.trans (by rw [hp]))
      have HSN := Lib.hid hsn
      have HQ := Lib.hid hp
      have hdk : decide (k < N) = true := decide_eq_true hlt
      clear hc h4 e0 e1 e2 e' c0 c1 hq hp hsn hbw
      have hown2 : ((wr.alloc (.cells #[.int .u8 (q.code.toNat : Int), .slice Ap q.data.length cp] 37)).alloc (.cells #[.slice Ap q.data.length cp] 22)).ownsRow (w.heap.size + 1) 22 1 v (k + 1) ((.slice (some ⟨w.heap.size, 0, none⟩) 1 1) :: (M.take k).map Piece.at_) := World.ownsRow.alloc (World.ownsRow.alloc hown.out _) _
      have OWN2 := Lib.hid hown2
      have hs1 : w.heap.size + 1 ≤ wr.heap.size := by have := hbel.out.size; have := HZ0.out; omega
      have HS1 := Lib.hid hs1
      have CELL := Lib.hid (cell_two wr (.cells #[.int .u8 (q.code.toNat : Int), .slice Ap q.data.length cp] 37) (.slice Ap q.data.length cp) 22)
      have BEL2 := Lib.hid ((hbel.out.alloc (by omega) (.cells #[.int .u8 (q.code.toNat : Int), .slice Ap q.data.length cp] 37)).alloc (by simp; omega) (.cells #[.slice Ap q.data.length cp] 22))
      clear hown2 hs1
      go_wp2_with (at_builtin; refine wpList_append_bag rfl (.tmp 24) (.tmp 27) rfl (w.heap.size + 1) _ (k + 1) _ rfl OWN2.out (wr.heap.size + 1) (.slice Ap q.data.length cp) rfl CELL.out rfl (by omega) (by have := HS1.out; simp; omega) ?_; intro v5 w5 hown5 hg5)
      have ho5 : w5.ownsRow (w.heap.size + 1) 22 1 v5 (k + 1 + 1) ((.slice (some ⟨w.heap.size, 0, none⟩) 1 1) :: (M.take (k + 1)).map Piece.at_) := by rw [HSN.out, HQ.out]; exact hown5
      have hb5 : Below (w.heap.size + 1) W0 w5 := BEL2.out.grown hg5 (by have := HS1.out; simp; omega) (fun j hj => (World.ownsRow.lt OWN2.out j hj).1)
      have HO5 := Lib.hid ho5
      have HB5 := Lib.hid hb5
      clear hown5 hg5 ho5 hb5
      go_roundw
      case rel => exact ⟨k + 1, _, rfl, by omega, by go_num, HO5, HB5⟩
      case measure => simp [intOf]; omega
    · obtain rfl : k = N := by omega
      have ho := hown.out
      rw [List.take_of_length_le (by omega)] at ho
      have HO := Lib.hid ho
      clear ho
      go_wp2_with fail
      go_ret
      have hbw : Below w.heap.size w wr := HB0.out.trans (hbel.out.mono (by omega))
      refine ⟨v, .slice (some ⟨w.heap.size, 0, none⟩) 1 1, rfl, row_bag (base := w.heap.size + 1) ?_ ?_, hbw⟩
      · unfold partsL
        rw [List.length_cons, List.length_map, hML, List.map_cons, List.map_map]
        exact HO.out
      · intro p hp
        unfold partsL at hp
        rcases List.mem_cons.1 hp with rfl | hp
        · exact (HMADE.out.below hbel.out).more (by have := hbel.out.size; have := HZ0.out; omega)
        · obtain ⟨q, hq, rfl⟩ := List.mem_map.1 hp
          exact ((HMD.out q hq).below (hbw.mono hB)).more (by have := hbw.size; omega)
end Go.Proofs.Ytadgaeokiolmmaa
