/-
  Texts joined: SnMparts, SnKindM, SnProgA. Conditions: those of each.
-/
import Derived.Test.YtocblkacdoahfaaGreatDoorJ15
import Derived.Test.YtocblkacdoahfaaGreatDoorJ13
/-
  script.multiParts: how many must sign, and the keys. Conditions: none.
-/
namespace Go.Proofs.YtocblkacdoahfaaGreatDoor.Sn
open Go.RowKit

theorem run_subops (b o N c : Nat) (hc : N + 3 ≤ c) (W : World) :
    (Instr.slice 78 (.slice (some ⟨b, o, none⟩) (N + 3) c) (some (.int .i64 1)) (some (.int .i64 ((N : Int) + 1))) none).run Tryz.prog W = .ok (.slice (some ⟨b, o + 2, none⟩) N (c - 1)) W := by
  obtain ⟨i0, hi, hz0, hz1, hz2⟩ := info_parts info_op
  have he : Tryz.prog.elem 78 = 83 := by kernel_rfl
  have ht : Tryz.prog.underlying 78 = some (.slice (Tryz.prog.elem 78)) := by rw [he]; exact slice_op
  rw [run_slice_lh (ht := ht) (h0 := by omega) (h1 := by omega) (h2 := by omega), he]
  have h1 : ((N : Int) + 1).toNat = N + 1 := by omega
  have h2 : ¬ c = 1 := by omega
  have hadd : (⟨b, o, none⟩ : Addr).add 2 = ⟨b, o + 2, none⟩ := by unfold Addr.add; split <;> simp_all
  simp [sizeOf, typeInfo, hi, hz1, sliced, go_sem, h1, h2]

theorem row_bag {w : World} {base : Nat} {v : Value} {L : List (Value × List UInt8)} (h : w.ownsRow base 23 1 v L.length (L.map (·.1))) (hd : ∀ p ∈ L, Byt w w.heap.size p.1 p.2) : BagR w w.heap.size v L := by
  refine ⟨?_, hd⟩
  rcases h.2 with ⟨rfl, hn⟩ | ⟨g, cap, cur, rfl, hb, hg, hnc, hcm, hcs, ht⟩
  · obtain rfl : L = [] := List.eq_nil_of_length_eq_zero hn
    exact ⟨none, 0, rfl, Nat.le_refl _, by unfold maxLen; omega, fun h => absurd rfl h⟩
  · refine ⟨some ⟨g, 0, none⟩, cap, rfl, hnc, hcm, fun hne => ⟨g, 0, rfl, (h.lt g rfl).2, fun i p hp => ?_⟩⟩
    have hi := (List.getElem?_eq_some_iff.1 hp).1
    rw [Nat.zero_add]
    refine (World.ownsRow.cellAt h i (by omega)).trans ?_
    rw [List.getElem?_map, hp]
    rfl
theorem cell_two (w : World) (o : Obj) (u : Value) (t : TypeId) : ((w.alloc o).alloc (.cells #[u] t)).cell? ⟨w.heap.size + 1, 0, none⟩ = some u := by
  have h := cell_of_row _ (w.alloc o).heap.size 0 _ _ _ (heap_alloc_new (w.alloc o) (.cells #[u] t))
  rw [World.size_alloc] at h
  exact h

def partsL (a0 : Value) (s0 : Int) (M : List Piece) : List (Value × List UInt8) := (a0, [b8 s0]) :: M.map (fun p => (p.at_, p.data))

set_option maxRecDepth 100000 in
set_option maxHeartbeats 6400000 in
theorem multiParts_any (B N : Nat) (x : Value) (L : List Piece) (p0 : Piece) (w : World) (hx : OpsR w B x L) (hd : ∀ p ∈ L, Byt w B p.at_ p.data) (hB : B ≤ w.heap.size) (hN : L.length = N + 3) (hNb : N ≤ 60000000) (hp0 : L[0]? = some p0) (h1 : 1 ≤ smallB p0.code) :
    Calls Tryz.prog 38 #[x] w fun e w' => ∃ v a0, e = .returned v ∧ BagR w' w'.heap.size v (partsL a0 (smallB p0.code) ((L.drop 1).take N)) ∧ Below w.heap.size w w' := by
  obtain ⟨A', c, rfl, hl1, hl2, h3⟩ := hx
  obtain ⟨b, o, rfl, hb, hc⟩ := h3 (by rintro rfl; simp at hN)
  have q0 : w.cell? ⟨b, o, none⟩ = some (.int .u8 (p0.code.toNat : Int)) := (hc 0 _ hp0).1
  have HSUB := Lib.hid (ops_drop ⟨_, _, rfl, hl1, hl2, fun _ => ⟨b, o, rfl, hb, hc⟩⟩ hN)
  obtain ⟨M, hM⟩ : ∃ M, M = (L.drop 1).take N := ⟨_, rfl⟩
  have hML : M.length = N := by rw [hM]; simp; omega
  have hMd : ∀ p ∈ M, Byt w B p.at_ p.data := fun p hp => hd p (by rw [hM] at hp; exact List.mem_of_mem_drop (List.mem_of_mem_take hp))
  rw [← hM] at HSUB ⊢
  rw [hN] at hl1 ⊢
  unfold maxLen at hl2
  have HS0 := Lib.hid (fun W => small_any p0.code W)
  have sb0 := smallB_bd p0.code
  obtain ⟨s0, hs0⟩ : ∃ s, s = smallB p0.code := ⟨_, rfl⟩
  obtain ⟨u0, hu0⟩ : ∃ s : Int, s = (p0.code.toNat : Int) := ⟨_, rfl⟩
  rw [← hu0] at q0 HS0
  rw [← hs0] at HS0 sb0 h1 ⊢
  have hsl := run_subops b o N c hl1
  have hw : IntKind.i64.wrap ((N : Int) + 3 - 2) = (N : Int) + 1 := by rw [show (N : Int) + 3 - 2 = (N : Int) + 1 by omega]; exact IntWalk.i64_in _ (by omega)
  have hw8 : IntKind.u8.wrap s0 = s0 := by rw [IntKind.wrap_u8]; omega
  have i0' : (0 : Int) < (N : Int) + 3 := by omega
  have HMD := Lib.hid hMd
  have hmade := Byt.made w 5 [.int .u8 s0] [b8 s0] (by rw [List.map_cons, bv_b8_of (by omega) (by omega)]; rfl) (by unfold maxLen; simp)
  obtain ⟨W0, hW0⟩ : ∃ W0, W0 = w.alloc (.cells #[.int .u8 s0] 5) := ⟨_, rfl⟩
  have hmade0 : Byt W0 (w.heap.size + 1) (.slice (some ⟨w.heap.size, 0, none⟩) 1 1) [b8 s0] := by rw [hW0]; exact hmade
  have HMADE := Lib.hid hmade0
  have hb0 : Below w.heap.size w W0 := by rw [hW0]; exact byt_below _ _ (Nat.le_refl _)
  have hz0 : W0.heap.size = w.heap.size + 1 := by rw [hW0]; simp
  have HB0 := Lib.hid hb0
  have HZ0 := Lib.hid hz0
  have hrow : (W0.alloc (.cells #[.slice (some ⟨w.heap.size, 0, none⟩) 1 1] 23)).ownsRow (w.heap.size + 1) 23 1 (.slice (some ⟨W0.heap.size, 0, none⟩) 1 1) 1 [.slice (some ⟨w.heap.size, 0, none⟩) 1 1] :=
    ⟨by simp, .inr ⟨W0.heap.size, 1, _, rfl, by omega, heap_alloc_new W0 _, Nat.le_refl _, by unfold maxLen; omega, rfl, rfl⟩⟩
  rw [hz0] at hrow
  have HROW := Lib.hid hrow
  have HBR := Lib.hid (show Below (w.heap.size + 1) W0 (W0.alloc (.cells #[.slice (some ⟨w.heap.size, 0, none⟩) 1 1] 23)) from byt_below _ _ (by omega))
  rw [hW0] at HROW HBR
  clear hc h3 hM hN hp0 hs0 hu0 hMd hd hmade hmade0 hb0 hz0 hrow
  go_enter Tryz.func38, Tryz.ntmps38
  go_wp2_with fail
  refine (HS0.out _).mono ?_
  rintro e w1 ⟨rfl, rfl⟩
  go_wp2_with fail
  rw [← hW0] at HROW HBR ⊢
  go_loopw [3, 20] (fun s t wr => ∃ (k : Nat) (v : Value), v = s ∧ k ≤ N ∧ t = .int .i64 (k : Int) ∧ Hid (wr.ownsRow (w.heap.size + 1) 23 1 v (k + 1) ((.slice (some ⟨w.heap.size, 0, none⟩) 1 1) :: (M.take k).map Piece.at_)) ∧ Hid (Below (w.heap.size + 1) W0 wr)) (fun _ t _ => N - (intOf t).toNat)
  case atStart => exact ⟨0, _, rfl, Nat.zero_le _, rfl, HROW, HBR⟩
  case round =>
    obtain ⟨k, v, hv, hk, rfl, hown, hbel⟩ := hrel
    subst hv
    by_cases hlt : k < N
    · obtain ⟨A', c', e0, _, _, h4⟩ := HSUB.out
      obtain ⟨e1, e2, e3⟩ := Value.slice.inj e0
      subst e3
      obtain ⟨b', o', e', hb', hc⟩ := h4 (by rintro rfl; simp at hML; omega)
      rw [← e1] at e'
      injection e' with e'
      obtain ⟨e1', e2', _⟩ := Addr.mk.inj e'
      subst e1' e2'
      obtain ⟨c0, c1, Ap, cp, hp⟩ := hc k _ (List.getElem?_eq_getElem (show k < M.length by omega))
      have hsn : (M.take (k + 1)).map Piece.at_ = (M.take k).map Piece.at_ ++ [M[k].at_] := by rw [List.take_succ_eq_append_getElem (by omega), List.map_append]; rfl
      obtain ⟨q, hq⟩ : ∃ q, q = M[k] := ⟨_, rfl⟩
      rw [← hq] at c0 c1 hp hsn
      have hbw : Below w.heap.size w wr := HB0.out.trans (hbel.out.mono (by omega))
      have r0 : wr.cell? ⟨b, o + 2 + k * 2, none⟩ = some (.int .u8 (q.code.toNat : Int)) := (hbw.cell (p := ⟨b, _, none⟩) (by show b < _; omega)).trans c0
      have r1 : wr.cell? ⟨b, o + 2 + k * 2 + 1, none⟩ = some (.slice Ap q.data.length cp) := (hbw.cell (p := ⟨b, _, none⟩) (by show b < _; omega)).trans (c1.trans (by rw [hp]))
      have HSN := Lib.hid hsn
      have HQ := Lib.hid hp
      have hdk : decide (k < N) = true := decide_eq_true hlt
      clear hc h4 e0 e1 e2 e' c0 c1 hq hp hsn hbw
      have hown2 : ((wr.alloc (.cells #[.int .u8 (q.code.toNat : Int), .slice Ap q.data.length cp] 83)).alloc (.cells #[.slice Ap q.data.length cp] 23)).ownsRow (w.heap.size + 1) 23 1 v (k + 1) ((.slice (some ⟨w.heap.size, 0, none⟩) 1 1) :: (M.take k).map Piece.at_) := World.ownsRow.alloc (World.ownsRow.alloc hown.out _) _
      have OWN2 := Lib.hid hown2
      have hs1 : w.heap.size + 1 ≤ wr.heap.size := by have := hbel.out.size; have := HZ0.out; omega
      have HS1 := Lib.hid hs1
      have CELL := Lib.hid (cell_two wr (.cells #[.int .u8 (q.code.toNat : Int), .slice Ap q.data.length cp] 83) (.slice Ap q.data.length cp) 23)
      have BEL2 := Lib.hid ((hbel.out.alloc (by omega) (.cells #[.int .u8 (q.code.toNat : Int), .slice Ap q.data.length cp] 83)).alloc (by simp; omega) (.cells #[.slice Ap q.data.length cp] 23))
      clear hown2 hs1
      go_wp2_with (at_builtin; refine wpList_append_bag rfl (.tmp 24) (.tmp 27) rfl (w.heap.size + 1) _ (k + 1) _ rfl OWN2.out (wr.heap.size + 1) (.slice Ap q.data.length cp) rfl CELL.out rfl (by omega) (by have := HS1.out; simp; omega) ?_; intro v5 w5 hown5 hg5)
      have ho5 : w5.ownsRow (w.heap.size + 1) 23 1 v5 (k + 1 + 1) ((.slice (some ⟨w.heap.size, 0, none⟩) 1 1) :: (M.take (k + 1)).map Piece.at_) := by rw [HSN.out, HQ.out]; exact hown5
      have hb5 : Below (w.heap.size + 1) W0 w5 := BEL2.out.grown hg5 (by have := HS1.out; simp; omega) (fun j hj => (World.ownsRow.lt OWN2.out j hj).1)
      have HO5 := Lib.hid ho5
      have HB5 := Lib.hid hb5
      clear hown5 hg5 ho5 hb5
      go_roundw
      case rel => exact ⟨k + 1, _, rfl, by omega, by go_num, HO5, HB5⟩
      case measure => simp [intOf]; omega
    · obtain rfl : k = N := by omega
      have ho := hown.out
      rw [List.take_of_length_le (by omega)] at ho
      have HO := Lib.hid ho
      clear ho
      go_wp2_with fail
      go_ret
      have hbw : Below w.heap.size w wr := HB0.out.trans (hbel.out.mono (by omega))
      refine ⟨v, .slice (some ⟨w.heap.size, 0, none⟩) 1 1, rfl, row_bag (base := w.heap.size + 1) ?_ ?_, hbw⟩
      · unfold partsL
        rw [List.length_cons, List.length_map, hML, List.map_cons, List.map_map]
        exact HO.out
      · intro p hp
        unfold partsL at hp
        rcases List.mem_cons.1 hp with rfl | hp
        · exact (HMADE.out.below hbel.out).more (by have := hbel.out.size; have := HZ0.out; omega)
        · obtain ⟨q, hq, rfl⟩ := List.mem_map.1 hp
          exact ((HMD.out q hq).below (hbw.mono hB)).more (by have := hbw.size; omega)
end Go.Proofs.YtocblkacdoahfaaGreatDoor.Sn

/-
  script.Kind at the form of many keys. Conditions: sixteen keys at most, thirty-three bytes each.
-/
namespace Go.Proofs.YtocblkacdoahfaaGreatDoor.Sn
open Go.RowKit

theorem parse_push {c : UInt8} {k : List UInt8} (hc : c.toNat = k.length) (h : k.length < 76) (xs : List UInt8) : parseP (c :: (k ++ xs)) = (parseP xs).map ((c, k) :: ·) := by
  have q : opR c (k ++ xs) = (k, 0, xs) := by
    unfold opR sizeD
    rw [if_pos (by omega)]
    dsimp only
    rw [hc]
    exact rawR_app k xs
  rw [parseP_ok (by rw [q]), q]
theorem vcode_nat {v : Int} (h0 : 0 < v) (h1 : v ≤ 16) : (vcode v).toNat = 80 + v.toNat := by
  unfold vcode
  rw [if_neg (by omega), UInt8.toNat_ofNat', Nat.mod_eq_of_lt (by omega)]
theorem parse_keys (ks : List (List UInt8)) (h : ks.any (fun k => k.length != 33) = false) (xs : List UInt8) : parseP (flatK ks ++ xs) = (parseP xs).map (ks.map (fun k => ((33 : UInt8), k)) ++ ·) := by
  induction ks with
  | nil => unfold flatK; simp
  | cons k ks ih =>
    rw [List.any_cons, Bool.or_eq_false_iff] at h
    have hk : k.length = 33 := by simpa using h.1
    have e : flatK (k :: ks) ++ xs = 33 :: (k ++ (flatK ks ++ xs)) := by unfold flatK; simp
    rw [e, parse_push (by rw [hk]; rfl) (by omega), ih h.2, Option.map_map]
    rfl
def multiOps (m : Int) (ks : List (List UInt8)) : List (UInt8 × List UInt8) := (vcode m, []) :: (ks.map (fun k => ((33 : UInt8), k)) ++ [(vcode (ks.length : Int), []), (174, [])])
theorem parse_multi (m : Int) (ks : List (List UInt8)) (h : ks.any (fun k => k.length != 33) = false) (h0 : 1 ≤ m) (h1 : m ≤ (ks.length : Int)) (h2 : ks.length ≤ 16) : parseP (multiForm m ks) = some (multiOps m ks) := by
  have e : multiForm m ks = vcode m :: (flatK ks ++ (vcode (ks.length : Int) :: 174 :: [])) := by unfold multiForm; simp
  have n1 := vcode_nat (v := m) (by omega) (by omega)
  have n2 := vcode_nat (v := (ks.length : Int)) (by omega) (by omega)
  rw [e, parse_code (by omega), parse_keys ks h, parse_code (by omega), parse_code (by decide), parseP_nil]
  unfold multiOps
  simp
theorem multi_codes (m : Int) (ks : List (List UInt8)) : (multiOps m ks).map (·.1) = vcode m :: (List.replicate ks.length 33 ++ [vcode (ks.length : Int), 174]) := by
  unfold multiOps
  rw [List.map_cons, List.map_append, List.map_map]
  congr 2
  induction ks with
  | nil => rfl
  | cons k ks ih => rw [List.map_cons, ih]; rfl
theorem multi_datas (m : Int) (ks : List (List UInt8)) : (multiOps m ks).map (·.2) = [] :: (ks ++ [[], []]) := by
  unfold multiOps
  rw [List.map_cons, List.map_append, List.map_map]
  congr 2
  induction ks with
  | nil => rfl
  | cons k ks ih => rw [List.map_cons, ih]; rfl
theorem multiB_form (m : Int) (n : Nat) (h0 : 1 ≤ m) (h1 : m ≤ (n : Int)) (h2 : n ≤ 16) : multiB (vcode m :: (List.replicate n 33 ++ [vcode (n : Int), 174])) = true := by
  have hl : (vcode m :: (List.replicate n (33 : UInt8) ++ [vcode (n : Int), 174])).length = n + 3 := by simp
  have g2 : (vcode m :: (List.replicate n (33 : UInt8) ++ [vcode (n : Int), 174])).getD (n + 2) 0 = 174 := by
    rw [List.getD_cons_succ, List.getD, List.getElem?_append_right (by simp), List.length_replicate, show n + 1 - n = 1 by omega]
    rfl
  have g1 : (vcode m :: (List.replicate n (33 : UInt8) ++ [vcode (n : Int), 174])).getD (n + 1) 0 = vcode (n : Int) := by
    rw [List.getD_cons_succ, List.getD, List.getElem?_append_right (by simp), List.length_replicate, show n - n = 0 by omega]
    rfl
  have g0 : (vcode m :: (List.replicate n (33 : UInt8) ++ [vcode (n : Int), 174])).getD 0 0 = vcode m := rfl
  have gt : ((vcode m :: (List.replicate n (33 : UInt8) ++ [vcode (n : Int), 174])).drop 1).take n = List.replicate n 33 := by
    rw [List.drop_succ_cons, List.drop_zero]
    exact List.take_left' (by simp)
  unfold multiB
  rw [hl, if_neg (by omega), show n + 3 - 1 = n + 2 by omega, show n + 3 - 2 = n + 1 by omega, show n + 3 - 3 = n by omega, g2, g1, g0, gt, small_vcode _ (by omega) (by omega), small_vcode _ (by omega) (by omega), show ((n + 3 : Nat) : Int) - 3 = (n : Int) by omega]
  have ha : (List.replicate n (33 : UInt8)).any (· != 33) = false := by
    rw [List.any_eq_false]
    intro x hx
    rw [List.eq_of_mem_replicate hx]
    decide
  rw [ha]
  simp [h0, h1]

theorem prog_long (B : Nat) (x : Value) (xs : List UInt8) (w : World) (hx : Byt w B x xs) (h : 42 < xs.length) :
    Calls Tryz.prog 33 #[x] w fun e w' => e = .returned (.tuple #[.int .i64 0, .slice none 0 0, .bool false]) ∧ w = w' := by
  have hl := hx.len
  unfold maxLen at hl
  obtain ⟨A, c, rfl⟩ := hx.form
  have d1 : decide ((xs.length : Int) < 4) = false := decide_eq_false (by omega)
  have d2 : decide ((42 : Int) < (xs.length : Int)) = true := decide_eq_true (by omega)
  clear hx
  go_enter Tryz.func33, Tryz.ntmps33
  go_wp2_with fail
  go_ret3
  exact ⟨rfl, rfl⟩

theorem prog_multi (B : Nat) (x : Value) (m : Int) (ks : List (List UInt8)) (w : World) (hx : Byt w B x (multiForm m ks)) (h : ks.any (fun k => k.length != 33) = false) (h1 : 1 ≤ ks.length) :
    Calls Tryz.prog 33 #[x] w fun e w' => e = .returned (.tuple #[.int .i64 0, .slice none 0 0, .bool false]) ∧ w = w' := by
  have hf := flatK_len h
  have hl : (multiForm m ks).length = 34 * ks.length + 3 := by unfold multiForm; simp [hf]
  by_cases h2 : 2 ≤ ks.length
  · exact prog_long B x _ w hx (by omega)
  · obtain ⟨k, rfl⟩ := List.length_eq_one_iff.1 (show ks.length = 1 by omega)
    have hk : k.length = 33 := by simpa using h
    have e : multiForm m [k] = vcode m :: 33 :: (k ++ [vcode 1, 174]) := by unfold multiForm flatK; simp
    rw [e] at hx
    exact prog_no B x (vcode m) 33 (k ++ [vcode 1, 174]) w hx (by rw [List.length_append, hk]; decide) (by simp) (by simp [hk])

/-- What Kind answers there. -/
def KindM (w : World) (m : Int) (ks : List (List UInt8)) (e : Ending) (w' : World) : Prop :=
  ∃ v M, e = .returned (.tuple #[.int .i64 5, v]) ∧ BagR w' w'.heap.size v M ∧ M.map (·.2) = [b8 m] :: ks ∧ Below w.heap.size w w'

set_option maxRecDepth 100000 in
set_option maxHeartbeats 6400000 in
theorem kind_multi (B : Nat) (x : Value) (m : Int) (ks : List (List UInt8)) (w : World) (hx : Byt w B x (multiForm m ks)) (hk : ks.any (fun k => k.length != 33) = false) (h0 : 1 ≤ m) (h1 : m ≤ (ks.length : Int)) (h2 : ks.length ≤ 16) :
    Calls Tryz.prog 11 #[x] w (KindM w m ks) := by
  have hf := flatK_len hk
  have hlen : (multiForm m ks).length = 34 * ks.length + 3 := by unfold multiForm; simp [hf]
  have HN := Lib.hid (prog_multi B x m ks w hx hk (by omega))
  have HP := Lib.hid (parse_list B x (multiForm m ks) _ (parse_multi m ks hk h0 h1 h2) w hx (by omega))
  have ncode := vcode_nat (v := m) (by omega) (by omega)
  have hol : (multiOps m ks).length = ks.length + 3 := by unfold multiOps; simp
  obtain ⟨A, c, rfl⟩ := hx.form
  obtain ⟨F, hF⟩ : ∃ F, F = (multiForm m ks).length := ⟨_, rfl⟩
  rw [← hF] at HN HP ⊢
  have HMN := Lib.hid (And.intro h0 (And.intro h1 h2))
  have HNC := Lib.hid ncode
  have HOL := Lib.hid hol
  have HFb : Hid (F ≤ 60000000) := Lib.hid (by omega)
  clear hx hlen hf hF ncode hol hk h0 h1 h2
  go_enter Tryz.func11, Tryz.ntmps11
  go_wp2_with fail
  refine HN.out.mono ?_
  rintro e w1 ⟨rfl, rfl⟩
  go_wp2_with fail
  refine HP.out.mono ?_
  rintro e w1 ⟨Av, cv, L, rfl, hL, hops, hb1⟩
  rw [HOL.out] at hops ⊢
  have hro := OpsR.of_at hops
  have hLl : L.length = ks.length + 3 := by rw [← HOL.out, ← hL, List.length_map]
  have hcod := codes_of hL
  rw [multi_codes] at hcod
  have hd : ∀ p ∈ L, Byt w1 w1.heap.size p.at_ p.data := fun p hp => Byt.of_own (hops.2.1 p hp)
  obtain ⟨p0, hp0⟩ : ∃ p, L[0]? = some p := ⟨_, List.getElem?_eq_getElem (by omega)⟩
  have hc0 : p0.code = vcode m := by
    have := congrArg (fun l : List UInt8 => l[0]?) hcod
    rw [List.getElem?_map, hp0] at this
    exact Option.some.inj this
  have hdat : ((L.drop 1).take ks.length).map Piece.data = ks := by
    have h := congrArg (fun l : List (UInt8 × List UInt8) => ((l.map (·.2)).drop 1).take ks.length) hL
    simp only [multi_datas, List.map_map, List.drop_succ_cons, List.drop_zero] at h
    rw [List.take_left' rfl] at h
    rw [List.map_take, List.map_drop]
    exact h
  have hne1 : decide (L.map Piece.code = [118, 169, 20, 136, 172]) = false := decide_eq_false (by rw [hcod]; intro e; have hq := congrArg UInt8.toNat (List.cons.inj e).1; rw [HNC.out] at hq; have hz := HMN.out; have h118 : (118 : UInt8).toNat = 118 := rfl; have h169 : (169 : UInt8).toNat = 169 := rfl; omega)
  have hne2 : decide (L.map Piece.code = [169, 20, 135]) = false := decide_eq_false (by rw [hcod]; intro e; have hq := congrArg UInt8.toNat (List.cons.inj e).1; rw [HNC.out] at hq; have hz := HMN.out; have h118 : (118 : UInt8).toNat = 118 := rfl; have h169 : (169 : UInt8).toNat = 169 := rfl; omega)
  have hm := Byt.made w1 5 [.int .u8 118, .int .u8 169, .int .u8 20, .int .u8 136, .int .u8 172] [118, 169, 20, 136, 172] rfl (by unfold maxLen; simp)
  have hbm : Below w1.heap.size w1 (w1.alloc (.cells #[.int .u8 118, .int .u8 169, .int .u8 20, .int .u8 136, .int .u8 172] 5)) := byt_below _ _ (Nat.le_refl _)
  have hck := coded_any w1.heap.size (w1.heap.size + 1) _ _ L [118, 169, 20, 136, 172] _ (hro.below hbm) hm (by simp) (by simp)
  rw [hne1] at hck
  have HK := Lib.hid hck
  have hco := fun (w9 : World) (h9 : Below w1.heap.size w1 w9) => coded_any w1.heap.size (w9.heap.size + 1) _ _ L [169, 20, 135] _ ((hro.below h9).below (byt_below w9 (.cells #[.int .u8 169, .int .u8 20, .int .u8 135] 5) h9.size)) (Byt.made w9 5 [.int .u8 169, .int .u8 20, .int .u8 135] [169, 20, 135] rfl (by unfold maxLen; simp)) (by have := h9.size; simp; omega) (by simp)
  rw [hne2] at hco
  have HC := Lib.hid hco
  have hmu := fun (w9 : World) (h9 : Below w1.heap.size w1 w9) => multi_any w1.heap.size _ L w9 (hro.below h9) h9.size (by have := HMN.out; omega)
  rw [hcod, multiB_form m ks.length HMN.out.1 HMN.out.2.1 HMN.out.2.2] at hmu
  have HMU := Lib.hid hmu
  have hmp := fun (w9 : World) (h9 : Below w1.heap.size w1 w9) => multiParts_any w1.heap.size ks.length _ L p0 w9 (hro.below h9) (fun p hp => (hd p hp).below h9) h9.size hLl (by have := HMN.out; omega) hp0 (by rw [hc0, small_vcode _ (by have := HMN.out; omega) (by have := HMN.out; omega)]; exact HMN.out.1)
  rw [hc0, small_vcode _ (by have := HMN.out; omega) (by have := HMN.out; omega)] at hmp
  have HMP := Lib.hid hmp
  have HDAT := Lib.hid hdat
  have HB1 := Lib.hid hb1
  have HB2 := Lib.hid hbm
  clear hmp hmu hco hck hcod hm hbm hro hops hL hb1 HN HP hdat hne1 hne2 hd hp0 hc0 hLl
  obtain ⟨Q, hQ⟩ : ∃ Q, Q = ks.length := ⟨_, rfl⟩
  rw [← hQ] at HK HC HMU HMP HDAT ⊢
  clear hQ
  go_wp2_with fail
  refine HK.out.mono ?_
  rintro e w9 ⟨rfl, hb9⟩
  have HB9 := Lib.hid (HB2.out.trans (hb9.mono (by simp)))
  clear hb9
  go_wp2_with fail
  refine (HC.out w9 HB9.out).mono ?_
  rintro e w2 ⟨rfl, hb2⟩
  have HB10 := Lib.hid ((HB9.out.alloc HB9.out.size (.cells #[.int .u8 169, .int .u8 20, .int .u8 135] 5)).trans (hb2.mono (by have := HB9.out.size; simp; omega)))
  clear hb2
  go_wp2_with fail
  refine (HMU.out w2 HB10.out).mono ?_
  rintro e w3 ⟨rfl, hb3⟩
  have HB11 := Lib.hid (HB10.out.trans (hb3.mono HB10.out.size))
  clear hb3
  go_wp2_with fail
  refine (HMP.out w3 HB11.out).mono ?_
  rintro e w4 ⟨v4, a0, rfl, bag4, hb4⟩
  have HB12 := Lib.hid (HB1.out.trans ((HB11.out.trans (hb4.mono HB11.out.size)).mono HB1.out.size))
  have hpm : (partsL a0 m ((L.drop 1).take Q)).map (·.2) = [b8 m] :: ks := by
    unfold partsL
    rw [List.map_cons, List.map_map]
    exact congrArg (List.cons [b8 m]) HDAT.out
  obtain ⟨P, hP⟩ : ∃ P, P = partsL a0 m ((L.drop 1).take Q) := ⟨_, rfl⟩
  rw [← hP] at bag4 hpm
  have BAG4 := Lib.hid bag4
  have HPM := Lib.hid hpm
  obtain ⟨A4, c4, rfl⟩ := bag4.form
  clear hP hpm
  clear bag4 hb4
  go_wp2_with fail
  go_ret2
  exact ⟨_, P, rfl, BAG4.out, HPM.out, HB12.out⟩
end Go.Proofs.YtocblkacdoahfaaGreatDoor.Sn

/-
  script.Program at any bytes; the reference's Small and Program. Conditions: sizes within the reach.
-/
namespace Go.Proofs.YtocblkacdoahfaaGreatDoor.Sn
open Go.RowKit

theorem progB_two (a b : UInt8) (ys : List UInt8) : progB (a :: b :: ys) = if ys.length < 2 ∨ 40 < ys.length ∨ b.toNat ≠ ys.length ∨ smallB a < 0 then none else some (smallB a, ys) := rfl
theorem progV_none {w w' : World} {xs : List UInt8} {e : Ending} (h : progB xs = none) (he : e = .returned (.tuple #[.int .i64 0, .slice none 0 0, .bool false])) (hw : w = w') : ProgV w xs e w' := by
  unfold ProgV
  rw [h]
  subst hw
  exact ⟨he, Below.refl _ _⟩
theorem program_short (B : Nat) (x : Value) (xs : List UInt8) (w : World) (hx : Byt w B x xs) (h : xs.length < 4) :
    Calls Tryz.prog 33 #[x] w fun e w' => e = .returned (.tuple #[.int .i64 0, .slice none 0 0, .bool false]) ∧ w = w' := by
  obtain ⟨A, c, rfl⟩ := hx.form
  have d1 : decide ((xs.length : Int) < 4) = true := decide_eq_true (by omega)
  clear hx
  go_enter Tryz.func33, Tryz.ntmps33
  go_wp2_with fail
  go_ret3
  exact ⟨rfl, rfl⟩
set_option maxRecDepth 100000 in
set_option maxHeartbeats 3200000 in
theorem prog_neg (B : Nat) (x : Value) (a b : UInt8) (ys : List UInt8) (w : World) (hx : Byt w B x (a :: b :: ys)) (h : b.toNat = ys.length) (h2 : 2 ≤ ys.length) (h40 : ys.length ≤ 40) (hs : smallB a < 0) :
    Calls Tryz.prog 33 #[x] w fun e w' => e = .returned (.tuple #[.int .i64 0, .slice none 0 0, .bool false]) ∧ w = w' := by
  obtain ⟨A, c, rfl, h1, hm, _, h4⟩ := hx
  obtain ⟨gb, o, rfl, hb, hc⟩ := h4 (by simp)
  have hcell1 : w.cell? ⟨gb, o + 1, none⟩ = some (.int .u8 (b.toNat : Int)) := hc 1 b rfl
  have hcell0 : w.cell? ⟨gb, o, none⟩ = some (.int .u8 (a.toNat : Int)) := hc 0 a rfl
  obtain ⟨n, hn⟩ : ∃ n, n = ys.length := ⟨_, rfl⟩
  have e : (a :: b :: ys).length = n + 2 := by simp [hn]
  rw [e] at h1 ⊢
  rw [← hn] at h h2 h40
  unfold maxLen at hm
  have d1 : decide ((n : Int) + 2 < 4) = false := decide_eq_false (by omega)
  have d2 : decide ((42 : Int) < (n : Int) + 2) = false := decide_eq_false (by omega)
  have d3 : ((b.toNat : Int) != (n : Int)) = false := by simp [h]
  have hpos : (0 : Int) < (n : Int) + 2 := by omega
  have hb256 := b.toNat_lt
  have HS := Lib.hid (fun W => small_any a W)
  obtain ⟨sv, hsv⟩ : ∃ sv, sv = smallB a := ⟨_, rfl⟩
  rw [← hsv] at HS hs
  have d4 : decide (sv < 0) = true := decide_eq_true hs
  clear hc h4 e h hn hsv
  go_enter Tryz.func33, Tryz.ntmps33
  go_wp2_with fail
  refine (HS.out _).mono ?_
  rintro e w1 ⟨rfl, rfl⟩
  go_wp2_with fail
  go_ret3
  exact ⟨rfl, rfl⟩
theorem prog_any (B : Nat) (x : Value) (xs : List UInt8) (w : World) (hx : Byt w B x xs) (hB : B ≤ w.heap.size) :
    Calls Tryz.prog 33 #[x] w (ProgV w xs) := by
  by_cases h4 : xs.length < 4
  · refine (program_short B x xs w hx h4).mono fun e w' ⟨he, hw⟩ => progV_none ?_ he hw
    match xs, h4 with
    | [], _ => rfl
    | [_], _ => rfl
    | a :: b :: ys, h4 => rw [progB_two, if_pos (.inl (by simp at h4; omega))]
  · match xs, h4, hx with
    | [], h4, _ => simp at h4
    | [_], h4, _ => simp at h4
    | a :: b :: ys, h4, hx =>
      have h2 : 2 ≤ ys.length := by simp at h4; omega
      by_cases h40 : 40 < ys.length
      · exact (prog_long B x _ w hx (by simp; omega)).mono fun e w' ⟨he, hw⟩ => progV_none (by rw [progB_two, if_pos (.inr (.inl h40))]) he hw
      · by_cases hl : b.toNat = ys.length
        · by_cases hs : smallB a < 0
          · exact (prog_neg B x a b ys w hx hl h2 (by omega) hs).mono fun e w' ⟨he, hw⟩ => progV_none (by rw [progB_two, if_pos (.inr (.inr (.inr hs)))]) he hw
          · refine (prog_yes B x a b ys w hx hB hl h2 (by omega) (by omega)).mono fun e w' h => ?_
            have : progB (a :: b :: ys) = some (smallB a, ys) := by rw [progB_two, if_neg (by omega)]
            unfold ProgV
            rw [this]
            exact h
        · exact (prog_no B x a b ys w hx hl h2 (by omega)).mono fun e w' ⟨he, hw⟩ => progV_none (by rw [progB_two, if_pos (.inr (.inr (.inl hl)))]) he hw

/-- What the reference's Program answers. -/
def RProgV (w : World) (xs : List UInt8) (e : Ending) (w' : World) : Prop :=
  match progB xs with
  | none => e = .returned (.tuple #[.int .i64 (-1), .slice none 0 0]) ∧ Below w.heap.size w w'
  | some p => ∃ v, e = .returned (.tuple #[.int .i64 p.1, v]) ∧ OwnB w' w.heap.size v p.2 ∧ Below w.heap.size w w'
theorem rprogV_none {w w' : World} {xs : List UInt8} {e : Ending} (h : progB xs = none) (he : e = .returned (.tuple #[.int .i64 (-1), .slice none 0 0])) (hw : w = w') : RProgV w xs e w' := by
  unfold RProgV
  rw [h]
  subst hw
  exact ⟨he, Below.refl _ _⟩
end Go.Proofs.YtocblkacdoahfaaGreatDoor.Sn
