/-
  Texts joined: SnKindP, SnMown, SnWitO. Conditions: those of each.
-/
import Derived.Test.YtocblkacdoahfaaGreatDoorJ16
/-
  What a script is, as a function of its bytes; the two readings of its forms agree. Conditions: none.
-/
namespace Go.Proofs.YtocblkacdoahfaaGreatDoor.Sn
open Go.RowKit

theorem parse_first {xs : List UInt8} {o : UInt8 × List UInt8} {ops : List (UInt8 × List UInt8)} (h : parseP xs = some (o :: ops)) :
    ∃ c rest, xs = c :: rest ∧ (opR c rest).2.1 = 0 ∧ parseP (opR c rest).2.2 = some ops ∧ o = (c, (opR c rest).1) := by
  match xs, h with
  | [], h => rw [parseP_nil] at h; cases h
  | c :: rest, h =>
    by_cases h0 : (opR c rest).2.1 = 0
    · rw [parseP_ok h0] at h
      obtain ⟨ops', h1, h2⟩ := Option.map_eq_some_iff.1 h
      obtain ⟨e1, e2⟩ := List.cons.inj h2
      exact ⟨c, rest, rfl, h0, by rw [h1, e2], e1.symm⟩
    · rw [parseP_bad h0] at h
      cases h
theorem parse_end {xs : List UInt8} (h : parseP xs = some []) : xs = [] := by
  match xs, h with
  | [], _ => rfl
  | c :: rest, h =>
    by_cases h0 : (opR c rest).2.1 = 0
    · rw [parseP_ok h0] at h
      obtain ⟨ops', _, h2⟩ := Option.map_eq_some_iff.1 h
      cases h2
    · rw [parseP_bad h0] at h
      cases h
theorem op_data {c : UInt8} {xs : List UInt8} (h : c.toNat < 76) (h0 : (opR c xs).2.1 = 0) : ∃ ds rest, xs = ds ++ rest ∧ ds.length = c.toNat ∧ opR c xs = (ds, 0, rest) := by
  have e : opR c xs = rawR (c.toNat : Int) 0 xs := by unfold opR sizeD; rw [if_pos h]
  rw [e] at h0 ⊢
  unfold rawR at h0 ⊢
  rw [if_neg (by decide)] at h0 ⊢
  split at h0
  · cases h0
  · rename_i hn
    rw [if_neg hn, Int.toNat_natCast]
    exact ⟨xs.take c.toNat, xs.drop c.toNat, (List.take_append_drop _ _).symm, by rw [List.length_take]; omega, rfl⟩
/-- A code from 79 on stands for itself. -/
theorem first_code {xs : List UInt8} {o : UInt8 × List UInt8} {ops : List (UInt8 × List UInt8)} (h : parseP xs = some (o :: ops)) (hc : 79 ≤ o.1.toNat) : ∃ rest, xs = o.1 :: rest ∧ parseP rest = some ops ∧ o.2 = [] := by
  obtain ⟨c, rest, hx, h0, h1, rfl⟩ := parse_first h
  rw [opR_none (.inr hc)] at h1
  exact ⟨rest, hx, h1, by show (opR c rest).1 = []; rw [opR_none (.inr hc)]⟩
/-- A code below 76 stands before as many bytes. -/
theorem first_data {xs : List UInt8} {o : UInt8 × List UInt8} {ops : List (UInt8 × List UInt8)} (h : parseP xs = some (o :: ops)) (hc : o.1.toNat < 76) : ∃ rest, xs = o.1 :: (o.2 ++ rest) ∧ parseP rest = some ops ∧ o.2.length = o.1.toNat := by
  obtain ⟨c, rest, hx, h0, h1, rfl⟩ := parse_first h
  obtain ⟨ds, r, e1, e2, e3⟩ := op_data hc h0
  rw [e3] at h1
  refine ⟨r, ?_, h1, ?_⟩
  · show xs = c :: ((opR c rest).1 ++ r)
    rw [e3, hx, e1]
  · show (opR c rest).1.length = _
    rw [e3]
    exact e2

theorem key_back {xs : List UInt8} {ops : List (UInt8 × List UInt8)} (h : parseP xs = some ops) (hc : ops.map (·.1) = [118, 169, 20, 136, 172]) : ∃ hs, hs.length = 20 ∧ xs = keyForm hs ∧ ops = [(118, []), (169, []), (20, hs), (136, []), (172, [])] := by
  match ops, hc, h with
  | [(c0, d0), (c1, d1), (c2, d2), (c3, d3), (c4, d4)], hc, h =>
    simp only [List.map_cons, List.map_nil, List.cons.injEq, and_true] at hc
    obtain ⟨rfl, rfl, rfl, rfl, rfl⟩ := hc
    obtain ⟨r1, e1, h1, f1⟩ := first_code h (show 79 ≤ (118 : UInt8).toNat by decide)
    obtain ⟨r2, e2, h2, f2⟩ := first_code h1 (show 79 ≤ (169 : UInt8).toNat by decide)
    obtain ⟨r3, e3, h3, f3⟩ := first_data h2 (show (20 : UInt8).toNat < 76 by decide)
    obtain ⟨r4, e4, h4, f4⟩ := first_code h3 (show 79 ≤ (136 : UInt8).toNat by decide)
    obtain ⟨r5, e5, h5, f5⟩ := first_code h4 (show 79 ≤ (172 : UInt8).toNat by decide)
    have e6 := parse_end h5
    dsimp only at e1 e2 e3 e4 e5 f1 f2 f3 f4 f5
    subst f1 f2 f4 f5
    refine ⟨d2, f3, ?_, rfl⟩
    rw [e1, e2, e3, e4, e5, e6]
    unfold keyForm
    simp
theorem script_back {xs : List UInt8} {ops : List (UInt8 × List UInt8)} (h : parseP xs = some ops) (hc : ops.map (·.1) = [169, 20, 135]) : ∃ hs, hs.length = 20 ∧ xs = scriptForm hs ∧ ops = [(169, []), (20, hs), (135, [])] := by
  match ops, hc, h with
  | [(c0, d0), (c1, d1), (c2, d2)], hc, h =>
    simp only [List.map_cons, List.map_nil, List.cons.injEq, and_true] at hc
    obtain ⟨rfl, rfl, rfl⟩ := hc
    obtain ⟨r1, e1, h1, f1⟩ := first_code h (show 79 ≤ (169 : UInt8).toNat by decide)
    obtain ⟨r2, e2, h2, f2⟩ := first_data h1 (show (20 : UInt8).toNat < 76 by decide)
    obtain ⟨r3, e3, h3, f3⟩ := first_code h2 (show 79 ≤ (135 : UInt8).toNat by decide)
    have e6 := parse_end h3
    dsimp only at e1 e2 e3 f1 f2 f3
    subst f1 f3
    refine ⟨d1, f2, ?_, rfl⟩
    rw [e1, e2, e3, e6]
    unfold scriptForm
    simp
/-- Where the last operation's code is from 79 on, it is the last byte. -/
theorem last_code {xs : List UInt8} {ops : List (UInt8 × List UInt8)} {o : UInt8 × List UInt8} (h : parseP xs = some (ops ++ [o])) (hc : 79 ≤ o.1.toNat) : ∃ fr, xs = fr ++ [o.1] := by
  induction ops generalizing xs with
  | nil =>
    obtain ⟨rest, e, h1, _⟩ := first_code h hc
    rw [parse_end h1] at e
    exact ⟨[], e⟩
  | cons p ops ih =>
    obtain ⟨c, rest, hx, h0, h1, _⟩ := parse_first h
    obtain ⟨fr, e⟩ := ih h1
    have hs : ∃ z, rest = z ++ (opR c rest).2.2 := by
      unfold opR rawR
      have hz : ∃ z, rest = z ++ (sizeD c rest).2.2 := by
        unfold sizeD
        split
        · exact ⟨[], rfl⟩
        split
        · unfold numR; rw [if_neg (by decide)]; split; exact ⟨[], rfl⟩; exact ⟨_, (List.take_append_drop _ _).symm⟩
        split
        · unfold numR; rw [if_neg (by decide)]; split; exact ⟨[], rfl⟩; exact ⟨_, (List.take_append_drop _ _).symm⟩
        split
        · show ∃ z, rest = z ++ (numR 4 0 rest).2.2
          unfold numR; rw [if_neg (by decide)]; split; exact ⟨[], rfl⟩; exact ⟨_, (List.take_append_drop _ _).symm⟩
        · exact ⟨[], rfl⟩
      obtain ⟨z, hz⟩ := hz
      split
      · exact ⟨z, hz⟩
      split
      · exact ⟨z, hz⟩
      · exact ⟨z ++ (sizeD c rest).2.2.take (sizeD c rest).1.toNat, by rw [List.append_assoc, List.take_append_drop]; exact hz⟩
    obtain ⟨z, hz⟩ := hs
    exact ⟨c :: (z ++ fr), by rw [hx, hz, e]; simp⟩

/-- What a script is, and its parts. -/
def dataB (xs : List UInt8) : Int × List (List UInt8) := match xs with
  | [] => (0, [])
  | c :: t => if c = 106 ∧ pushesB t = true then (6, [t]) else (0, [])
def keysB (ops : List (UInt8 × List UInt8)) : List (List UInt8) := [b8 (smallB ((ops.map (·.1)).getD 0 0))] :: ((ops.drop 1).take (ops.length - 3)).map (·.2)
def opsB (xs : List UInt8) (ops : List (UInt8 × List UInt8)) : Int × List (List UInt8) :=
  if ops.map (·.1) = [118, 169, 20, 136, 172] then (1, [(ops.getD 2 (0, [])).2])
  else if ops.map (·.1) = [169, 20, 135] then (2, [(ops.getD 1 (0, [])).2])
  else if multiB (ops.map (·.1)) = true then (5, keysB ops)
  else dataB xs
def witB (v : Int) (p : List UInt8) : Int × List (List UInt8) := if v = 0 ∧ p.length = 20 then (3, [p]) else if v = 0 ∧ p.length = 32 then (4, [p]) else (7, [[b8 v], p])
def kindB (xs : List UInt8) : Int × List (List UInt8) :=
  match progB xs with
  | some q => witB q.1 q.2
  | none => match parseP xs with
    | some ops => opsB xs ops
    | none => (0, [])
theorem dataB_none {xs : List UInt8} (h : parseP xs = none) : dataB xs = (0, []) := by
  unfold dataB
  match xs, h with
  | [], _ => rfl
  | c :: t, h =>
    show (if c = 106 ∧ pushesB t = true then ((6, [t]) : Int × List (List UInt8)) else (0, [])) = (0, [])
    rw [if_neg]
    rintro ⟨rfl, hp⟩
    rw [parse_code (by decide)] at h
    unfold pushesB at hp
    cases ht : parseP t with
    | none => rw [ht] at hp; cases hp
    | some o => rw [ht] at h; cases h
end Go.Proofs.YtocblkacdoahfaaGreatDoor.Sn

/-
  script.multiParts again: its row and its first part are the call's own. Conditions: none.
-/
namespace Go.Proofs.YtocblkacdoahfaaGreatDoor.Sn
open Go.RowKit

set_option maxRecDepth 100000 in
set_option maxHeartbeats 6400000 in
theorem multiOwn_any (B N : Nat) (x : Value) (L : List Piece) (p0 : Piece) (w : World) (hx : OpsR w B x L) (hd : ∀ p ∈ L, Byt w B p.at_ p.data) (hB : B ≤ w.heap.size) (hN : L.length = N + 3) (hNb : N ≤ 60000000) (hp0 : L[0]? = some p0) (h1 : 1 ≤ smallB p0.code) :
    Calls Tryz.prog 38 #[x] w fun e w' => ∃ v a0, e = .returned v ∧ w'.ownsRow (w.heap.size + 1) 23 1 v (N + 1) ((partsL a0 (smallB p0.code) ((L.drop 1).take N)).map (·.1)) ∧ OwnB w' w.heap.size a0 [b8 (smallB p0.code)] ∧ a0.ownBlock = some w.heap.size ∧ Below w.heap.size w w' := by
  obtain ⟨A', c, rfl, hl1, hl2, h3⟩ := hx
  obtain ⟨b, o, rfl, hb, hc⟩ := h3 (by rintro rfl; simp at hN)
  have q0 : w.cell? ⟨b, o, none⟩ = some (.int .u8 (p0.code.toNat : Int)) := (hc 0 _ hp0).1
  have HSUB := Lib.hid (ops_drop ⟨_, _, rfl, hl1, hl2, fun _ => ⟨b, o, rfl, hb, hc⟩⟩ hN)
  obtain ⟨M, hM⟩ : ∃ M, M = (L.drop 1).take N := ⟨_, rfl⟩
  have hML : M.length = N := by rw [hM]; simp; omega
  have hMd : ∀ p ∈ M, Byt w B p.at_ p.data := fun p hp => hd p (by rw [hM] at hp; exact List.mem_of_mem_drop (List.mem_of_mem_take hp))
  rw [← hM] at HSUB ⊢
  rw [hN] at hl1 ⊢
  unfold maxLen at hl2
  have HS0 := Lib.hid (fun W => small_any p0.code W)
  have sb0 := smallB_bd p0.code
  obtain ⟨s0, hs0⟩ : ∃ s, s = smallB p0.code := ⟨_, rfl⟩
  obtain ⟨u0, hu0⟩ : ∃ s : Int, s = (p0.code.toNat : Int) := ⟨_, rfl⟩
  rw [← hu0] at q0 HS0
  rw [← hs0] at HS0 sb0 h1 ⊢
  have hsl := run_subops b o N c hl1
  have hw : IntKind.i64.wrap ((N : Int) + 3 - 2) = (N : Int) + 1 := by rw [show (N : Int) + 3 - 2 = (N : Int) + 1 by omega]; exact IntWalk.i64_in _ (by omega)
  have hw8 : IntKind.u8.wrap s0 = s0 := by rw [IntKind.wrap_u8]; omega
  have i0' : (0 : Int) < (N : Int) + 3 := by omega
  have HMD := Lib.hid hMd
  have hmade := Byt.made w 5 [.int .u8 s0] [b8 s0] (by rw [List.map_cons, bv_b8_of (by omega) (by omega)]; rfl) (by unfold maxLen; simp)
  have hownm := own_made w 5 [.int .u8 s0] [b8 s0] (by rw [List.map_cons, bv_b8_of (by omega) (by omega)]; rfl) (by unfold maxLen; simp)
  obtain ⟨W0, hW0⟩ : ∃ W0, W0 = w.alloc (.cells #[.int .u8 s0] 5) := ⟨_, rfl⟩
  have hownm0 : OwnB W0 w.heap.size (.slice (some ⟨w.heap.size, 0, none⟩) 1 1) [b8 s0] := by rw [hW0]; exact hownm
  have HOWNM := Lib.hid hownm0
  have hmade0 : Byt W0 (w.heap.size + 1) (.slice (some ⟨w.heap.size, 0, none⟩) 1 1) [b8 s0] := by rw [hW0]; exact hmade
  have HMADE := Lib.hid hmade0
  have hb0 : Below w.heap.size w W0 := by rw [hW0]; exact byt_below _ _ (Nat.le_refl _)
  have hz0 : W0.heap.size = w.heap.size + 1 := by rw [hW0]; simp
  have HB0 := Lib.hid hb0
  have HZ0 := Lib.hid hz0
  have hrow : (W0.alloc (.cells #[.slice (some ⟨w.heap.size, 0, none⟩) 1 1] 23)).ownsRow (w.heap.size + 1) 23 1 (.slice (some ⟨W0.heap.size, 0, none⟩) 1 1) 1 [.slice (some ⟨w.heap.size, 0, none⟩) 1 1] :=
    ⟨by simp, .inr ⟨W0.heap.size, 1, _, rfl, by omega, heap_alloc_new W0 _, Nat.le_refl _, by unfold maxLen; omega, rfl, rfl⟩⟩
  rw [hz0] at hrow
  have HROW := Lib.hid hrow
  have HBR := Lib.hid (show Below (w.heap.size + 1) W0 (W0.alloc (.cells #[.slice (some ⟨w.heap.size, 0, none⟩) 1 1] 23)) from byt_below _ _ (by omega))
  rw [hW0] at HROW HBR
  clear hc h3 hM hN hp0 hs0 hu0 hMd hd hmade hmade0 hb0 hz0 hrow hownm hownm0
  go_enter Tryz.func38, Tryz.ntmps38
  go_wp2_with fail
  refine (HS0.out _).mono ?_
  rintro e w1 ⟨rfl, rfl⟩
  go_wp2_with fail
  rw [← hW0] at HROW HBR ⊢
  go_loopw [3, 20] (fun s t wr => ∃ (k : Nat) (v : Value), v = s ∧ k ≤ N ∧ t = .int .i64 (k : Int) ∧ Hid (wr.ownsRow (w.heap.size + 1) 23 1 v (k + 1) ((.slice (some ⟨w.heap.size, 0, none⟩) 1 1) :: (M.take k).map Piece.at_)) ∧ Hid (Below (w.heap.size + 1) W0 wr)) (fun _ t _ => N - (intOf t).toNat)
  case atStart => exact ⟨0, _, rfl, Nat.zero_le _, rfl, HROW, HBR⟩
  case round =>
    obtain ⟨k, v, hv, hk, rfl, hown, hbel⟩ := hrel
    subst hv
    by_cases hlt : k < N
    · obtain ⟨A', c', e0, _, _, h4⟩ := HSUB.out
      obtain ⟨e1, e2, e3⟩ := Value.slice.inj e0
      subst e3
      obtain ⟨b', o', e', hb', hc⟩ := h4 (by rintro rfl; simp at hML; omega)
      rw [← e1] at e'
      injection e' with e'
      obtain ⟨e1', e2', _⟩ := Addr.mk.inj e'
      subst e1' e2'
      obtain ⟨c0, c1, Ap, cp, hp⟩ := hc k _ (List.getElem?_eq_getElem (show k < M.length by omega))
      have hsn : (M.take (k + 1)).map Piece.at_ = (M.take k).map Piece.at_ ++ [M[k].at_] := by rw [List.take_succ_eq_append_getElem (by omega), List.map_append]; rfl
      obtain ⟨q, hq⟩ : ∃ q, q = M[k] := ⟨_, rfl⟩
      rw [← hq] at c0 c1 hp hsn
      have hbw : Below w.heap.size w wr := HB0.out.trans (hbel.out.mono (by omega))
      have r0 : wr.cell? ⟨b, o + 2 + k * 2, none⟩ = some (.int .u8 (q.code.toNat : Int)) := (hbw.cell (p := ⟨b, _, none⟩) (by show b < _; omega)).trans c0
      have r1 : wr.cell? ⟨b, o + 2 + k * 2 + 1, none⟩ = some (.slice Ap q.data.length cp) := (hbw.cell (p := ⟨b, _, none⟩) (by show b < _; omega)).trans (c1.trans (by rw [hp]))
      have HSN := Lib.hid hsn
      have HQ := Lib.hid hp
      have hdk : decide (k < N) = true := decide_eq_true hlt
      clear hc h4 e0 e1 e2 e' c0 c1 hq hp hsn hbw
      have hown2 : ((wr.alloc (.cells #[.int .u8 (q.code.toNat : Int), .slice Ap q.data.length cp] 83)).alloc (.cells #[.slice Ap q.data.length cp] 23)).ownsRow (w.heap.size + 1) 23 1 v (k + 1) ((.slice (some ⟨w.heap.size, 0, none⟩) 1 1) :: (M.take k).map Piece.at_) := World.ownsRow.alloc (World.ownsRow.alloc hown.out _) _
      have OWN2 := Lib.hid hown2
      have hs1 : w.heap.size + 1 ≤ wr.heap.size := by have := hbel.out.size; have := HZ0.out; omega
      have HS1 := Lib.hid hs1
      have CELL := Lib.hid (cell_two wr (.cells #[.int .u8 (q.code.toNat : Int), .slice Ap q.data.length cp] 83) (.slice Ap q.data.length cp) 23)
      have BEL2 := Lib.hid ((hbel.out.alloc (by omega) (.cells #[.int .u8 (q.code.toNat : Int), .slice Ap q.data.length cp] 83)).alloc (by simp; omega) (.cells #[.slice Ap q.data.length cp] 23))
      clear hown2 hs1
      go_wp2_with (at_builtin; refine wpList_append_bag rfl (.tmp 24) (.tmp 27) rfl (w.heap.size + 1) _ (k + 1) _ rfl OWN2.out (wr.heap.size + 1) (.slice Ap q.data.length cp) rfl CELL.out rfl (by omega) (by have := HS1.out; simp; omega) ?_; intro v5 w5 hown5 hg5)
      have ho5 : w5.ownsRow (w.heap.size + 1) 23 1 v5 (k + 1 + 1) ((.slice (some ⟨w.heap.size, 0, none⟩) 1 1) :: (M.take (k + 1)).map Piece.at_) := by rw [HSN.out, HQ.out]; exact hown5
      have hb5 : Below (w.heap.size + 1) W0 w5 := BEL2.out.grown hg5 (by have := HS1.out; simp; omega) (fun j hj => (World.ownsRow.lt OWN2.out j hj).1)
      have HO5 := Lib.hid ho5
      have HB5 := Lib.hid hb5
      clear hown5 hg5 ho5 hb5
      go_roundw
      case rel => exact ⟨k + 1, _, rfl, by omega, by go_num, HO5, HB5⟩
      case measure => simp [intOf]; omega
    · obtain rfl : k = N := by omega
      have ho := hown.out
      rw [List.take_of_length_le (by omega)] at ho
      have HO := Lib.hid ho
      clear ho
      go_wp2_with fail
      go_ret
      have hbw : Below w.heap.size w wr := HB0.out.trans (hbel.out.mono (by omega))
      refine ⟨v, .slice (some ⟨w.heap.size, 0, none⟩) 1 1, rfl, ?_, ?_, rfl, hbw⟩
      · unfold partsL
        rw [List.map_cons, List.map_map]
        exact HO.out
      · exact own_turns HOWNM.out (Turns.of_below (S := fun _ => False) (by rw [HZ0.out]; exact hbel.out)) (fun _ _ h => h)
end Go.Proofs.YtocblkacdoahfaaGreatDoor.Sn

/-
  Rows of parts that are the call's own; script.witness. Conditions: none.
-/
namespace Go.Proofs.YtocblkacdoahfaaGreatDoor.Sn
open Go.RowKit

/-- The bytes of no two lie in one block. -/
def Alone (M : List (Value × List UInt8)) : Prop := M.Pairwise (fun p q => ∀ g, p.1.ownBlock = some g → q.1.ownBlock ≠ some g)
/-- A kind and its parts, all the call's own. -/
def KindO (w : World) (base : Nat) (k : Int × List (List UInt8)) (e : Ending) (w' : World) : Prop :=
  ∃ v M, e = .returned (.tuple #[.int .i64 k.1, v]) ∧ M.map (·.2) = k.2 ∧ BagAt w' base v M ∧ Alone M ∧ Below w.heap.size w w'
theorem bagrow_new (w : World) (base : Nat) (l : List Value) (hb : base ≤ w.heap.size) (hl : l.length ≤ maxLen) : (w.alloc (.cells l.toArray 23)).ownsRow base 23 1 (.slice (some ⟨w.heap.size, 0, none⟩) l.length l.length) l.length l :=
  ⟨by simp, .inr ⟨w.heap.size, l.length, _, rfl, hb, heap_alloc_new w _, Nat.le_refl _, hl, by simp, by simp⟩⟩
theorem alone_single (p : Value × List UInt8) : Alone [p] := List.pairwise_singleton _ _
theorem own_later {w w' : World} {base : Nat} {v : Value} {xs : List UInt8} (h : OwnB w base v xs) (hb : Below w.heap.size w w') : OwnB w' base v xs := own_turns h (Turns.of_below (S := fun _ => False) hb) (fun _ _ h => h)

set_option maxRecDepth 100000 in
set_option maxHeartbeats 1600000 in
theorem wit_any (base : Nat) (v : Int) (u : Value) (p : List UInt8) (w : World) (hu : OwnB w base u p) (hb : base ≤ w.heap.size) (h0 : 0 ≤ v) (h1 : v ≤ 16) :
    Calls Tryz.prog 34 #[.int .i64 v, u] w (KindO w base (witB v p)) := by
  obtain ⟨A, c, rfl⟩ := own_form hu
  have dr : ∀ B (W : World), Below B W W := fun _ _ => Below.refl _ _
  have HU := Lib.hid (own_later hu (byt_below w (.cells #[.slice A p.length c] 23) (Nat.le_refl _)))
  have HROW := Lib.hid (bagrow_new w base [.slice A p.length c] hb (by unfold maxLen; simp))
  have HBB := Lib.hid (byt_below (B := w.heap.size) w (.cells #[.slice A p.length c] 23) (Nat.le_refl _))
  by_cases hv : v = 0
  · subst hv
    by_cases h20 : p.length = 20
    · have e20 : ((p.length : Int) == 20) = true := by rw [h20]; rfl
      have hk : witB 0 p = (3, [p]) := by unfold witB; rw [if_pos ⟨rfl, h20⟩]
      rw [hk]
      clear hu h20 hk
      go_enter Tryz.func34, Tryz.ntmps34
      go_wp2_with fail
      go_ret2
      exact ⟨_, [(.slice A p.length c, p)], rfl, rfl, ⟨HROW.out, fun q hq => by rcases List.mem_singleton.1 hq with rfl; exact HU.out⟩, alone_single _, HBB.out⟩
    · have e20 : ((p.length : Int) == 20) = false := by simp only [beq_eq_false_iff_ne, ne_eq]; omega
      by_cases h32 : p.length = 32
      · have e32 : ((p.length : Int) == 32) = true := by rw [h32]; rfl
        have hk : witB 0 p = (4, [p]) := by unfold witB; rw [if_neg (by omega), if_pos ⟨rfl, h32⟩]
        rw [hk]
        clear hu h20 h32 hk
        go_enter Tryz.func34, Tryz.ntmps34
        go_wp2_with fail
        go_ret2
        exact ⟨_, [(.slice A p.length c, p)], rfl, rfl, ⟨HROW.out, fun q hq => by rcases List.mem_singleton.1 hq with rfl; exact HU.out⟩, alone_single _, HBB.out⟩
      · have e32 : ((p.length : Int) == 32) = false := by simp only [beq_eq_false_iff_ne, ne_eq]; omega
        have hk : witB 0 p = (7, [[b8 0], p]) := by unfold witB; rw [if_neg (by omega), if_neg (by omega)]
        rw [hk]
        have hlt := fun k hk => (World.ownsRow.lt hu k hk).2
        have H1 := Lib.hid (own_later hu (byt_below w (.cells #[.int .u8 0] 5) (Nat.le_refl _)))
        have HOM := Lib.hid (own_made w 5 [.int .u8 0] [b8 0] rfl (by unfold maxLen; simp))
        have hr2 := bagrow_new (w.alloc (.cells #[.int .u8 0] 5)) base [.slice (some ⟨w.heap.size, 0, none⟩) 1 1, .slice A p.length c] (by simp; omega) (by unfold maxLen; simp)
        rw [World.size_alloc] at hr2
        have HR2 := Lib.hid hr2
        clear hr2
        have HLT := Lib.hid hlt
        clear hu h20 h32 hk hlt
        go_enter Tryz.func34, Tryz.ntmps34
        go_wp2_with fail
        go_ret2
        have hb2 : Below (w.alloc (.cells #[.int .u8 0] 5)).heap.size (w.alloc (.cells #[.int .u8 0] 5)) ((w.alloc (.cells #[.int .u8 0] 5)).alloc (.cells #[.slice (some ⟨w.heap.size, 0, none⟩) 1 1, .slice A p.length c] 23)) := byt_below _ _ (Nat.le_refl _)
        refine ⟨_, [(.slice (some ⟨w.heap.size, 0, none⟩) 1 1, [b8 0]), (.slice A p.length c, p)], rfl, rfl, ⟨HR2.out, fun q hq => ?_⟩, ?_, (byt_below (B := w.heap.size) w (.cells #[.int .u8 0] 5) (Nat.le_refl _)).trans (hb2.mono (by simp))⟩
        · simp only [List.mem_cons, List.not_mem_nil, or_false] at hq
          rcases hq with rfl | rfl
          · exact own_later (own_base HOM.out hb) hb2
          · exact own_later H1.out hb2
        · refine List.Pairwise.cons (fun q hq g hg hg2 => ?_) (alone_single _)
          rcases List.mem_singleton.1 hq with rfl
          have := HLT.out g hg2
          have : w.heap.size = g := by simpa [Value.ownBlock] using hg
          omega
  · have e0 : (v == 0) = false := by simpa using hv
    have hk : witB v p = (7, [[b8 v], p]) := by unfold witB; rw [if_neg (by omega), if_neg (by omega)]
    rw [hk]
    have hw8 : IntKind.u8.wrap v = v := by rw [IntKind.wrap_u8]; omega
    have hlt := fun k hk => (World.ownsRow.lt hu k hk).2
    have H1 := Lib.hid (own_later hu (byt_below w (.cells #[.int .u8 v] 5) (Nat.le_refl _)))
    have HOM := Lib.hid (own_made w 5 [.int .u8 v] [b8 v] (by rw [List.map_cons, bv_b8_of (by omega) (by omega)]; rfl) (by unfold maxLen; simp))
    have hr2 := bagrow_new (w.alloc (.cells #[.int .u8 v] 5)) base [.slice (some ⟨w.heap.size, 0, none⟩) 1 1, .slice A p.length c] (by simp; omega) (by unfold maxLen; simp)
    rw [World.size_alloc] at hr2
    have HR2 := Lib.hid hr2
    clear hr2
    have HLT := Lib.hid hlt
    clear hu hk hlt hv
    go_enter Tryz.func34, Tryz.ntmps34
    go_wp2_with fail
    go_ret2
    have hb2 : Below (w.alloc (.cells #[.int .u8 v] 5)).heap.size (w.alloc (.cells #[.int .u8 v] 5)) ((w.alloc (.cells #[.int .u8 v] 5)).alloc (.cells #[.slice (some ⟨w.heap.size, 0, none⟩) 1 1, .slice A p.length c] 23)) := byt_below _ _ (Nat.le_refl _)
    refine ⟨_, [(.slice (some ⟨w.heap.size, 0, none⟩) 1 1, [b8 v]), (.slice A p.length c, p)], rfl, rfl, ⟨HR2.out, fun q hq => ?_⟩, ?_, (byt_below (B := w.heap.size) w (.cells #[.int .u8 v] 5) (Nat.le_refl _)).trans (hb2.mono (by simp))⟩
    · simp only [List.mem_cons, List.not_mem_nil, or_false] at hq
      rcases hq with rfl | rfl
      · exact own_later (own_base HOM.out hb) hb2
      · exact own_later H1.out hb2
    · refine List.Pairwise.cons (fun q hq g hg hg2 => ?_) (alone_single _)
      rcases List.mem_singleton.1 hq with rfl
      have := HLT.out g hg2
      have : w.heap.size = g := by simpa [Value.ownBlock] using hg
      omega
end Go.Proofs.YtocblkacdoahfaaGreatDoor.Sn
