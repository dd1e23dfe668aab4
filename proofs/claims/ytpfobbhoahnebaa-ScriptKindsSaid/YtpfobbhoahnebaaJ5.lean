/-
  Texts joined: SnCoded, SnPush, SnAwk, SnLawN, SnOpen, SnRpush. Conditions: those of each.
-/
import Derived.Test.YtpfobbhoahnebaaJ4
import Derived.Test.YtpfobbhoahnebaaRows
import Derived.ChangeSame
import Derived.JoinedOf
import Derived.JoinedAt
import Derived.Deep.Slices
import Derived.Deep.Fields
import Derived.ProofKit
import Derived.OpenShut
import Derived.ChangeOld
/-
  script.coded: are these the codes of all operations? Conditions: sizes within the reach.
-/
namespace Go.Proofs.Ytpfobbhoahnebaa
open Go.RowKit

set_option maxHeartbeats 400000 in
theorem coded1_any (c q : UInt8) (u : Value) (w : World) :
    Calls Try.prog 86 #[.agg #[.int .u8 (c.toNat : Int), u], .int .u8 (q.toNat : Int)] w fun e w' => e = .returned (.bool (c == q)) ∧ Below w.heap.size w w' := by
  have hb : ((c.toNat : Int) == (q.toNat : Int)) = (c == q) := by
    rw [Bool.eq_iff_iff]
    simp only [beq_iff_eq]
    exact ⟨fun h => u8_ext (by omega), fun h => by subst h; rfl⟩
  have HB := Lib.hid hb
  clear hb
  go_enter Try.func86, Try.ntmps86
  go_wp2_with fail
  go_ret
  exact ⟨by rw [← HB.out]; rfl, (Below.refl _ _).alloc (Nat.le_refl _) _⟩

theorem codes_take {L : List Piece} {cs : List UInt8} {k : Nat} (h1 : k < L.length) (h2 : k < cs.length) (he : (L.take k).map Piece.code = cs.take k) (hk : L[k].code = cs[k]) : (L.take (k + 1)).map Piece.code = cs.take (k + 1) := by
  rw [List.take_succ_eq_append_getElem h1, List.take_succ_eq_append_getElem h2, List.map_append, he]
  simp [hk]
theorem codes_ne {L : List Piece} {cs : List UInt8} {k : Nat} (h1 : k < L.length) (h2 : k < cs.length) (hk : (L[k].code == cs[k]) = false) : L.map Piece.code ≠ cs := by
  intro e
  have : (L.map Piece.code)[k]'(by simp; exact h1) = cs[k] := by simp only [e]
  rw [List.getElem_map] at this
  rw [this] at hk
  simp at hk

set_option maxRecDepth 100000 in
set_option maxHeartbeats 1600000 in
theorem equal_op (B B' : Nat) (x y : Value) (L : List Piece) (cs : List UInt8) (w : World) (hx : OpsR w B x L) (hy : Byt w B' y cs) (hB : B ≤ w.heap.size) (hB' : B' ≤ w.heap.size) :
    Calls Try.prog 85 #[x, y, .func (.func 86) #[] #[]] w fun e w' => e = .returned (.bool (decide (L.map Piece.code = cs))) ∧ Below w.heap.size w w' := by
  have hlen := hx.len
  have hlen2 := hy.len
  unfold maxLen at hlen2
  obtain ⟨A, c, rfl⟩ := hx.form
  obtain ⟨A2, c2, rfl⟩ := hy.form
  have hcap := hx.cap
  have hcap2 := hy.cap
  have HX := Lib.hid hx
  have HY := Lib.hid hy
  clear hx hy
  obtain ⟨R, hR⟩ : ∃ R, R = decide (L.map Piece.code = cs) := ⟨_, rfl⟩
  rw [← hR]
  have HR := Lib.hid hR
  clear hR
  by_cases hne : L.length = cs.length
  · have hnei : ((L.length : Int) != (cs.length : Int)) = false := by simp [hne]
    go_enter Try.func85, Try.ntmps85
    have HNE := Lib.hid hne
    clear hne
    go_wp2_with fail
    clear hnei
    go_loopw [17] (fun s wr => ∃ k : Nat, k ≤ L.length ∧ s = .int .i64 (k : Int) ∧ Hid ((L.take k).map Piece.code = cs.take k) ∧ Hid (Below w.heap.size w wr)) (fun s _ => L.length - (intOf s).toNat)
    case atStart => exact ⟨0, Nat.zero_le _, rfl, Lib.hid (by simp), Lib.hid (Below.refl _ _)⟩
    case round =>
      obtain ⟨k, hk, rfl, hno, hbel⟩ := hrel
      by_cases hlt : k < L.length
      · obtain ⟨A', c', e0, _, _, h4⟩ := HX.out
        obtain ⟨e1, e2, e3⟩ := Value.slice.inj e0
        subst e1 e3
        clear e2
        obtain ⟨b, o, rfl, hb, hc⟩ := h4 (by rintro rfl; simp at hlt)
        have hlt2 : k < cs.length := by have := HNE.out; omega
        obtain ⟨A', c', e0', _, _, _, h5⟩ := HY.out
        obtain ⟨e1, e2, e3⟩ := Value.slice.inj e0'
        subst e1 e3
        clear e2
        obtain ⟨b2, o2, rfl, hb2, hc2⟩ := h5 (by rintro rfl; simp at hlt2)
        obtain ⟨hc0, hc1, A9, c9, hd9⟩ := hc k _ (List.getElem?_eq_getElem hlt)
        have hc3 := hc2 k _ (List.getElem?_eq_getElem hlt2)
        have hs := Lib.hid (fun (h : L[k].code = cs[k]) => codes_take hlt hlt2 hno.out h)
        have hn := Lib.hid (fun (h : (L[k].code == cs[k]) = false) => codes_ne hlt hlt2 h)
        obtain ⟨⟨q, d, zs⟩, hq⟩ : ∃ q, q = L[k] := ⟨_, rfl⟩
        obtain ⟨z, hz⟩ : ∃ z, z = cs[k] := ⟨_, rfl⟩
        rw [← hq] at hc0 hc1 hs hn hd9
        rw [← hz] at hc3 hs hn
        dsimp only at hc0 hc1 hs hn hd9
        subst hd9
        have hb' : b < w.heap.size := by omega
        have hb2' : b2 < w.heap.size := by omega
        have hr0 : wr.cell? ⟨b, o + k * 2, none⟩ = some (.int .u8 (q.toNat : Int)) := (hbel.out.cell (p := ⟨b, _, none⟩) hb').trans hc0
        have hr1 : wr.cell? ⟨b, o + k * 2 + 1, none⟩ = some (.slice A9 zs.length c9) := (hbel.out.cell (p := ⟨b, _, none⟩) hb').trans hc1
        have hr3 : ∀ o3, (wr.alloc o3).cell? ⟨b2, o2 + k, none⟩ = some (.int .u8 (z.toNat : Int)) := fun o3 => ((hbel.out.alloc hbel.out.size o3).cell (p := ⟨b2, _, none⟩) hb2').trans hc3
        clear hc h4 h5 hc2 hq hz e0 e0' hc0 hc1 hc3
        have hd : decide (k < L.length) = true := by simpa using hlt
        have HT := Lib.hid (fun W => coded1_any q z (.slice A9 zs.length c9) W)
        by_cases hq0 : (q == z) = true
        · have hqz : q = z := by simpa using hq0
          rw [hq0] at HT
          clear hq0
          have hnx := Lib.hid (hs.out hqz)
          clear hqz hs hn
          go_wp2_with fail
          refine (HT.out _).mono ?_
          rintro e w1 ⟨rfl, hb1⟩
          go_wp2_with fail
          go_roundw
          case rel => exact ⟨k + 1, by omega, by go_num, hnx, Lib.hid ((hbel.out.alloc hbel.out.size _).trans (hb1.mono (by have := hbel.out.size; simp; omega)))⟩
          case measure => simp [intOf]; omega
        · have hq1 : (q == z) = false := by simpa using hq0
          rw [hq1] at HT
          have hnx := Lib.hid (hn.out hq1)
          clear hq0 hq1 hs hn
          go_wp2_with fail
          refine (HT.out _).mono ?_
          rintro e w1 ⟨rfl, hb1⟩
          go_wp2_with fail
          go_ret
          exact ⟨by rw [HR.out, decide_eq_false hnx.out]; rfl, (hbel.out.alloc hbel.out.size _).trans (hb1.mono (by have := hbel.out.size; simp; omega))⟩
      · obtain rfl : k = L.length := by omega
        go_wp2_with fail
        go_ret
        have h := hno.out
        rw [List.take_length, HNE.out, List.take_length] at h
        exact ⟨by rw [HR.out, decide_eq_true h]; rfl, hbel.out⟩
  · have hnei : ((L.length : Int) != (cs.length : Int)) = true := by simp only [bne_iff_ne, ne_eq]; omega
    have hnx : R = false := by
      rw [HR.out]
      exact decide_eq_false fun e => hne (by rw [← e, List.length_map])
    subst hnx
    clear hne HR
    go_enter Try.func85, Try.ntmps85
    go_wp2_with fail
    go_ret
    exact ⟨rfl, Below.refl _ _⟩

set_option maxHeartbeats 800000 in
theorem coded_any (B B' : Nat) (x y : Value) (L : List Piece) (cs : List UInt8) (w : World) (hx : OpsR w B x L) (hy : Byt w B' y cs) (hB : B ≤ w.heap.size) (hB' : B' ≤ w.heap.size) :
    Calls Try.prog 63 #[x, y] w fun e w' => e = .returned (.bool (decide (L.map Piece.code = cs))) ∧ Below w.heap.size w w' := by
  have H := Lib.hid (equal_op B B' x y L cs w hx hy hB hB')
  obtain ⟨A, c, rfl⟩ := hx.form
  obtain ⟨A2, c2, rfl⟩ := hy.form
  clear hx hy
  obtain ⟨R, hR⟩ : ∃ R, R = decide (L.map Piece.code = cs) := ⟨_, rfl⟩
  rw [← hR] at H ⊢
  clear hR
  go_enter Try.func63, Try.ntmps63
  go_wp2_with fail
  refine H.out.mono ?_
  rintro e w1 ⟨rfl, hb⟩
  go_wp2_with fail
  go_ret
  exact ⟨rfl, hb⟩
end Go.Proofs.Ytpfobbhoahnebaa

/-
  script.small, alone, Push; bytes.Clone. Conditions: sizes within the reach.
-/
namespace Go.Proofs.Ytpfobbhoahnebaa
open Go.RowKit

/-- The number from 0 to 16 that a code pushes on its own; -1: none. -/
def smallB (c : UInt8) : Int := if c = 0 then 0 else if 81 ≤ c.toNat ∧ c.toNat ≤ 96 then (c.toNat : Int) - 80 else -1

set_option maxHeartbeats 400000 in
theorem small_any (c : UInt8) (w : World) : Calls Try.prog 69 #[.int .u8 (c.toNat : Int)] w fun e w' => e = .returned (.int .i64 (smallB c)) ∧ w = w' := by
  have hc := c.toNat_lt
  by_cases h0 : c = 0
  · subst h0
    go_enter Try.func69, Try.ntmps69
    go_wp2_with fail
    go_ret
    exact ⟨rfl, rfl⟩
  · have hb0 : ((c.toNat : Int) == 0) = false := by
      have : c.toNat ≠ 0 := fun e => h0 (u8_ext e)
      simp only [beq_eq_false_iff_ne, ne_eq]; omega
    by_cases h1 : 81 ≤ c.toNat
    · have d1 : decide ((81 : Int) ≤ (c.toNat : Int)) = true := decide_eq_true (by omega)
      have d1' : (81 : Int) ≤ (c.toNat : Int) := by omega
      by_cases h2 : c.toNat ≤ 96
      · have hs : smallB c = (c.toNat : Int) - 80 := by unfold smallB; rw [if_neg h0, if_pos ⟨h1, h2⟩]
        have d2 : decide ((c.toNat : Int) ≤ 96) = true := decide_eq_true (by omega)
        have HS := Lib.hid hs
        clear hs h0
        go_enter Try.func69, Try.ntmps69
        go_wp2_with fail
        go_ret
        exact ⟨by rw [HS.out]; exact congrArg (fun z => Ending.returned (.int .i64 z)) (by omega), rfl⟩
      · have hs : smallB c = -1 := by unfold smallB; rw [if_neg h0, if_neg (by omega)]
        have d2 : decide ((c.toNat : Int) ≤ 96) = false := decide_eq_false (by omega)
        have HS := Lib.hid hs
        clear hs h0
        go_enter Try.func69, Try.ntmps69
        go_wp2_with fail
        go_ret
        exact ⟨by rw [HS.out]; rfl, rfl⟩
    · have hs : smallB c = -1 := by unfold smallB; rw [if_neg h0, if_neg (by omega)]
      have d1 : decide ((81 : Int) ≤ (c.toNat : Int)) = false := decide_eq_false (by omega)
      have HS := Lib.hid hs
      clear hs h0
      go_enter Try.func69, Try.ntmps69
      go_wp2_with fail
      go_ret
      exact ⟨by rw [HS.out]; rfl, rfl⟩

/-- The code that pushes these bytes with none behind it. -/
def aloneB (xs : List UInt8) : Option UInt8 :=
  match xs with
  | [] => some 0
  | [c] => if c = 129 then some 79 else if 1 ≤ c.toNat ∧ c.toNat ≤ 16 then some (UInt8.ofNat (80 + c.toNat)) else none
  | _ => none
theorem alone_one (q : UInt8) : aloneB [q] = if q = 129 then some 79 else if 1 ≤ q.toNat ∧ q.toNat ≤ 16 then some (UInt8.ofNat (80 + q.toNat)) else none := rfl
def AloneV (xs : List UInt8) : Value := match aloneB xs with | some c => .tuple #[.int .u8 (c.toNat : Int), .bool true] | none => .tuple #[.int .u8 0, .bool false]

set_option maxHeartbeats 1600000 in
theorem alone_any (B : Nat) (x : Value) (xs : List UInt8) (w : World) (hx : Byt w B x xs) : Calls Try.prog 50 #[x] w fun e w' => e = .returned (AloneV xs) ∧ w = w' := by
  have hlen := hx.len
  unfold maxLen at hlen
  match xs, hx with
  | [], hx =>
    obtain ⟨A, c, rfl⟩ := hx.form
    clear hx
    go_enter Try.func50, Try.ntmps50
    go_wp2_with fail
    go_ret2
    exact ⟨rfl, rfl⟩
  | [q], hx =>
    obtain ⟨A, c, rfl, _, _, _, h4⟩ := hx
    obtain ⟨b, o, rfl, hb, hc⟩ := h4 (by simp)
    have hcell : w.cell? ⟨b, o, none⟩ = some (.int .u8 (q.toNat : Int)) := hc 0 q rfl
    have hq := q.toNat_lt
    clear h4 hc
    by_cases h0 : q = 129
    · subst h0
      have hb0 : (((129 : UInt8).toNat : Int) == 129) = true := rfl
      go_enter Try.func50, Try.ntmps50
      go_wp2_with fail
      go_ret2
      exact ⟨rfl, rfl⟩
    · have hb0 : ((q.toNat : Int) == 129) = false := by
        have : q.toNat ≠ 129 := fun e => h0 (u8_ext e)
        simp only [beq_eq_false_iff_ne, ne_eq]; omega
      by_cases h1 : 1 ≤ q.toNat
      · have d1 : decide ((1 : Int) ≤ (q.toNat : Int)) = true := decide_eq_true (by omega)
        have d1' : (1 : Int) ≤ (q.toNat : Int) := by omega
        by_cases h2 : q.toNat ≤ 16
        · have hs : AloneV [q] = .tuple #[.int .u8 (80 + (q.toNat : Int)), .bool true] := by
            unfold AloneV
            rw [alone_one, if_neg h0, if_pos ⟨h1, h2⟩]
            show Value.tuple #[.int .u8 ((UInt8.ofNat (80 + q.toNat)).toNat : Int), .bool true] = _
            rw [UInt8.toNat_ofNat', Nat.mod_eq_of_lt (by omega)]
            rfl
          have d2 : decide ((q.toNat : Int) ≤ 16) = true := decide_eq_true (by omega)
          have HS := Lib.hid hs
          clear hs h0
          go_enter Try.func50, Try.ntmps50
          go_wp2_with fail
          go_ret2
          exact ⟨by rw [HS.out]; rfl, rfl⟩
        · have hs : AloneV [q] = .tuple #[.int .u8 0, .bool false] := by
            unfold AloneV
            rw [alone_one, if_neg h0, if_neg (by omega)]
          have d2 : decide ((q.toNat : Int) ≤ 16) = false := decide_eq_false (by omega)
          have HS := Lib.hid hs
          clear hs h0
          go_enter Try.func50, Try.ntmps50
          go_wp2_with fail
          go_ret2
          exact ⟨by rw [HS.out]; rfl, rfl⟩
      · have hs : AloneV [q] = .tuple #[.int .u8 0, .bool false] := by
          unfold AloneV
          rw [alone_one, if_neg h0, if_neg (by omega)]
        have d1 : decide ((1 : Int) ≤ (q.toNat : Int)) = false := decide_eq_false (by omega)
        have HS := Lib.hid hs
        clear hs h0
        go_enter Try.func50, Try.ntmps50
        go_wp2_with fail
        go_ret2
        exact ⟨by rw [HS.out]; rfl, rfl⟩
  | q :: q2 :: ys, hx =>
    obtain ⟨A, c, rfl⟩ := hx.form
    clear hx
    have h0 : (((q :: q2 :: ys).length : Int) == 0) = false := by simp only [List.length_cons, beq_eq_false_iff_ne, ne_eq]; omega
    have h1 : (1 : Int) < ((q :: q2 :: ys).length : Int) := by simp only [List.length_cons]; omega
    have d1 : decide ((1 : Int) < ((q :: q2 :: ys).length : Int)) = true := decide_eq_true h1
    have hs : AloneV (q :: q2 :: ys) = .tuple #[.int .u8 0, .bool false] := rfl
    obtain ⟨n, hn⟩ : ∃ n, n = (q :: q2 :: ys).length := ⟨_, rfl⟩
    rw [hs]
    rw [← hn] at h0 h1 d1 hlen ⊢
    clear hn hs
    go_enter Try.func50, Try.ntmps50
    go_wp2_with fail
    go_ret2
    exact ⟨rfl, rfl⟩

/-- The head of a push, and the push. -/
def headB (n : Nat) : List UInt8 := if n < 76 then [b8 (n : Int)] else if n ≤ 255 then [76, b8 (n : Int)] else if n ≤ 65535 then 77 :: low (n : Int) 2 else 78 :: low (n : Int) 4
def pushB (xs : List UInt8) : List UInt8 := match aloneB xs with | some c => [c] | none => headB xs.length ++ xs


theorem fresh_v {w w' : World} {xs : List UInt8} {e : Ending} (h : Fresh w xs e w') : ∃ v, e = .returned v ∧ OwnB w' w.heap.size v xs ∧ Below w.heap.size w w' := by
  obtain ⟨A, c, he, ho, hb⟩ := h
  exact ⟨_, he, ho, hb⟩
theorem fresh_made (w : World) (l : List Value) (ys : List UInt8) (h : l = ys.map bv) (hl : ys.length ≤ maxLen) :
    Fresh w ys (.returned (.slice (some ⟨w.heap.size, 0, none⟩) ys.length ys.length)) (w.alloc (.cells l.toArray 5)) :=
  ⟨_, _, rfl, own_made w _ l ys h hl, (Below.refl _ _).alloc (Nat.le_refl _) _⟩

set_option maxHeartbeats 800000 in
theorem push_alone (B : Nat) (x : Value) (xs : List UInt8) (c : UInt8) (h : aloneB xs = some c) (w : World) (hx : Byt w B x xs) :
    Calls Try.prog 18 #[x] w (Fresh w (pushB xs)) := by
  have hp : pushB xs = [c] := by unfold pushB; rw [h]
  have ha := alone_any B x xs w hx
  have hv : AloneV xs = .tuple #[.int .u8 (c.toNat : Int), .bool true] := by unfold AloneV; rw [h]
  rw [hv] at ha
  rw [hp]
  have HA := Lib.hid ha
  obtain ⟨A, c2, rfl⟩ := hx.form
  clear hx ha hv hp h
  go_enter Try.func18, Try.ntmps18
  go_wp2_with fail
  refine HA.out.mono ?_
  rintro e w1 ⟨rfl, rfl⟩
  go_wp2_with fail
  go_ret
  exact fresh_made w [bv c] [c] rfl (by unfold maxLen; simp)

/-- Behind the head: the writer holds it; the bytes and the end follow. -/
theorem wr_new (w : World) : Wr (w.alloc (.cells #[.slice none 0 0] 79)) w.heap.size (w.heap.size + 1) (.slice none 0 0) [] := ⟨heap_alloc_new w _, World.ownsRow_nil _ _ _ _⟩

set_option maxRecDepth 100000 in
set_option maxHeartbeats 3200000 in
theorem push_head (B : Nat) (x : Value) (xs : List UInt8) (h : aloneB xs = none) (w : World) (hx : Byt w B x xs) (hB : B ≤ w.heap.size) (hl : xs.length ≤ 47000000) :
    Calls Try.prog 18 #[x] w (Fresh w (pushB xs)) := by
  have hp : pushB xs = headB xs.length ++ xs := by unfold pushB; rw [h]
  have ha := alone_any B x xs w hx
  have hv : AloneV xs = .tuple #[.int .u8 0, .bool false] := by unfold AloneV; rw [h]
  rw [hv] at ha
  rw [hp]
  have HA := Lib.hid ha
  have HX := Lib.hid hx
  obtain ⟨A, c2, rfl⟩ := hx.form
  have hw := Lib.hid (wr_new w)
  have e1 : w.heap.size + 1 ≤ (w.alloc (.cells #[.slice none 0 0] 79)).heap.size := by simp
  have E1 := Lib.hid e1
  clear hx ha hv hp h e1
  have last : ∀ (hd : List UInt8) (w2 : World), hd.length ≤ 9 → WrStep (w.alloc (.cells #[.slice none 0 0] 79)) w.heap.size (w.heap.size + 1) (.slice none 0 0) hd w2 →
      ∃ v2, Byt w2 B (.slice A xs.length c2) xs ∧ Wr w2 w.heap.size (w.heap.size + 1) v2 hd ∧ w.heap.size + 1 ≤ w2.heap.size ∧ Below w.heap.size w w2 := fun hd w2 _ ⟨v2, h1, h2, _⟩ => by
    have ht : Turns (fun k => k = w.heap.size) w w2 := ((Turns.refl (fun _ => False) w).alloc _).mono (fun _ _ h => h.elim) |>.trans h2 (fun i hi hs => by rcases hs with hs | hs; exact hs; simp [Value.ownBlock] at hs)
    have hb : Below w.heap.size w w2 := ht.below_of (Nat.le_refl _) (fun i hi e => by omega)
    exact ⟨v2, HX.out.below (hb.mono hB), h1, by have := h2.size; simp at this; omega, hb⟩
  have LAST := Lib.hid last
  clear last
  have fin : ∀ (w3 w4 : World) (hd : List UInt8) (v2 : Value), Below w.heap.size w w3 → Wr w3 w.heap.size (w.heap.size + 1) v2 hd → WrStep w3 w.heap.size (w.heap.size + 1) v2 (hd ++ xs) w4 → w.heap.size + 1 ≤ w3.heap.size →
      (∃ v4, Wr w4 w.heap.size (w.heap.size + 1) v4 (hd ++ xs)) ∧ Below w.heap.size w w4 := fun w3 w4 hd v2 hb hwr ⟨v4, h1, h2, _⟩ hs => by
    refine ⟨⟨v4, h1⟩, hb.trans (h2.below_of (by omega) (fun i hi e => ?_))⟩
    rcases e with e | e
    · omega
    · have := (World.ownsRow.lt hwr.2 i e).1; omega
  have FIN := Lib.hid fin
  clear fin
  by_cases c1 : xs.length < 76
  · have hh : headB xs.length = [b8 (xs.length : Int)] := by unfold headB; rw [if_pos c1]
    rw [hh]
    clear hh
    go_enter Try.func18, Try.ntmps18
    go_wp2_with fail
    refine HA.out.mono ?_
    rintro e w1 ⟨rfl, rfl⟩
    go_wp2_with fail
    refine (u8_any w.heap.size (w.heap.size + 1) _ _ [] _ (by omega) (by omega) hw.out (by simp) E1.out).mono ?_
    rintro e w2 ⟨rfl, hs⟩
    obtain ⟨v2, hx2, hw2, hz2, hb2⟩ := LAST.out [b8 (xs.length : Int)] w2 (by simp) hs
    clear hs
    have HX2 := Lib.hid hx2
    have HW2 := Lib.hid hw2
    clear hx2 hw2
    go_wp2_with fail
    refine (raw_any w.heap.size (w.heap.size + 1) B v2 _ _ xs w2 HW2.out HX2.out (by simp; omega) hz2).mono ?_
    rintro e w3 ⟨rfl, hs⟩
    obtain ⟨⟨v4, hw4⟩, hb4⟩ := FIN.out w2 w3 _ v2 hb2 HW2.out hs hz2
    clear hs
    go_wp2_with fail
    refine (out_any w.heap.size (w.heap.size + 1) v4 _ w3 hw4 (by simp; omega)).mono ?_
    intro e w5 hfr
    obtain ⟨u5, rfl, hown5, hb5⟩ := fresh_v hfr
    go_wp2_with fail
    go_ret
    exact fresh_of (own_base hown5 hb4.size) (hb4.trans (hb5.mono hb4.size))
  by_cases c2 : xs.length ≤ 255
  · have hh : headB xs.length = [b8 76] ++ [b8 (xs.length : Int)] := by unfold headB; rw [if_neg c1, if_pos c2]; rfl
    rw [hh]
    clear hh
    go_enter Try.func18, Try.ntmps18
    go_wp2_with fail
    refine HA.out.mono ?_
    rintro e w1 ⟨rfl, rfl⟩
    go_wp2_with fail
    refine (u8_any w.heap.size (w.heap.size + 1) _ 76 [] _ (by omega) (by omega) hw.out (by simp) E1.out).mono ?_
    rintro e w2 ⟨rfl, hs⟩
    obtain ⟨v2, _, hw2, hz2, hb2⟩ := LAST.out [b8 76] w2 (by simp) hs
    have hs1 := Lib.hid hs
    have HW2 := Lib.hid hw2
    clear hw2 hs
    go_wp2_with fail
    refine (u8_any w.heap.size (w.heap.size + 1) v2 _ [b8 76] w2 (by omega) (by omega) HW2.out (by simp) hz2).mono ?_
    rintro e w3 ⟨rfl, hs⟩
    have hs3 : WrStep (w.alloc (.cells #[.slice none 0 0] 79)) w.heap.size (w.heap.size + 1) (.slice none 0 0) ([b8 76] ++ [b8 (xs.length : Int)]) w3 := by
      obtain ⟨v9, k1, k2, k3⟩ := hs
      obtain ⟨v8, j1, j2, j3⟩ := hs1.out
      refine ⟨v9, k1, ((Turns.refl (fun _ => False) _).mono (fun _ _ h => h.elim) |>.trans j2 (fun _ _ h => h)).trans k2 (fun i hi e => ?_), ?_⟩
      · rcases e with e | e
        · exact .inl e
        · have := (World.ownsRow.lt HW2.out.2 i e).1
          simp at hi
          omega
      · rcases k3 with k3 | ⟨k, hk, hkk⟩
        · rw [k3]
          cases hv : v2.ownBlock with
          | none => exact .inl rfl
          | some g => exact .inr ⟨g, rfl, by have := (World.ownsRow.lt HW2.out.2 g hv).1; simp; omega⟩
        · exact .inr ⟨k, hk, by simp; omega⟩
    obtain ⟨v3, hx3, hw3, hz3, hb3⟩ := LAST.out _ w3 (by simp) hs3
    clear hs hs3
    have HX3 := Lib.hid hx3
    have HW3 := Lib.hid hw3
    clear hx3 hw3
    go_wp2_with fail
    refine (raw_any w.heap.size (w.heap.size + 1) B v3 _ _ xs w3 HW3.out HX3.out (by simp; omega) hz3).mono ?_
    rintro e w4 ⟨rfl, hs⟩
    obtain ⟨⟨v4, hw4⟩, hb4⟩ := FIN.out w3 w4 _ v3 hb3 HW3.out hs hz3
    clear hs
    go_wp2_with fail
    refine (out_any w.heap.size (w.heap.size + 1) v4 _ w4 hw4 (by simp; omega)).mono ?_
    intro e w5 hfr
    obtain ⟨u5, rfl, hown5, hb5⟩ := fresh_v hfr
    go_wp2_with fail
    go_ret
    exact fresh_of (own_base hown5 hb4.size) (hb4.trans (hb5.mono hb4.size))
  by_cases c3 : xs.length ≤ 65535
  · have hh : headB xs.length = [b8 77] ++ low (xs.length : Int) 2 := by unfold headB; rw [if_neg c1, if_neg c2, if_pos c3]; rfl
    rw [hh]
    clear hh
    go_enter Try.func18, Try.ntmps18
    go_wp2_with fail
    refine HA.out.mono ?_
    rintro e w1 ⟨rfl, rfl⟩
    go_wp2_with fail
    refine (u8_any w.heap.size (w.heap.size + 1) _ 77 [] _ (by omega) (by omega) hw.out (by simp) E1.out).mono ?_
    rintro e w2 ⟨rfl, hs⟩
    obtain ⟨v2, _, hw2, hz2, hb2⟩ := LAST.out [b8 77] w2 (by simp) hs
    have hs1 := Lib.hid hs
    have HW2 := Lib.hid hw2
    clear hw2 hs
    go_wp2_with fail
    refine (u16_any w.heap.size (w.heap.size + 1) v2 _ [b8 77] w2 (by omega) (by omega) HW2.out (by simp) hz2).mono ?_
    rintro e w3 ⟨rfl, hs⟩
    have hs3 : WrStep (w.alloc (.cells #[.slice none 0 0] 79)) w.heap.size (w.heap.size + 1) (.slice none 0 0) ([b8 77] ++ low (xs.length : Int) 2) w3 := by
      obtain ⟨v9, k1, k2, k3⟩ := hs
      obtain ⟨v8, j1, j2, j3⟩ := hs1.out
      refine ⟨v9, k1, ((Turns.refl (fun _ => False) _).mono (fun _ _ h => h.elim) |>.trans j2 (fun _ _ h => h)).trans k2 (fun i hi e => ?_), ?_⟩
      · rcases e with e | e
        · exact .inl e
        · have := (World.ownsRow.lt HW2.out.2 i e).1
          simp at hi
          omega
      · rcases k3 with k3 | ⟨k, hk, hkk⟩
        · rw [k3]
          cases hv : v2.ownBlock with
          | none => exact .inl rfl
          | some g => exact .inr ⟨g, rfl, by have := (World.ownsRow.lt HW2.out.2 g hv).1; simp; omega⟩
        · exact .inr ⟨k, hk, by simp; omega⟩
    obtain ⟨v3, hx3, hw3, hz3, hb3⟩ := LAST.out _ w3 (by simp [low_length]) hs3
    clear hs hs3
    have HX3 := Lib.hid hx3
    have HW3 := Lib.hid hw3
    clear hx3 hw3
    go_wp2_with fail
    refine (raw_any w.heap.size (w.heap.size + 1) B v3 _ _ xs w3 HW3.out HX3.out (by simp [low_length]; omega) hz3).mono ?_
    rintro e w4 ⟨rfl, hs⟩
    obtain ⟨⟨v4, hw4⟩, hb4⟩ := FIN.out w3 w4 _ v3 hb3 HW3.out hs hz3
    clear hs
    go_wp2_with fail
    refine (out_any w.heap.size (w.heap.size + 1) v4 _ w4 hw4 (by simp [low_length]; omega)).mono ?_
    intro e w5 hfr
    obtain ⟨u5, rfl, hown5, hb5⟩ := fresh_v hfr
    go_wp2_with fail
    go_ret
    exact fresh_of (own_base hown5 hb4.size) (hb4.trans (hb5.mono hb4.size))
  · have hh : headB xs.length = [b8 78] ++ low (xs.length : Int) 4 := by unfold headB; rw [if_neg c1, if_neg c2, if_neg c3]; rfl
    rw [hh]
    clear hh
    go_enter Try.func18, Try.ntmps18
    go_wp2_with fail
    refine HA.out.mono ?_
    rintro e w1 ⟨rfl, rfl⟩
    go_wp2_with fail
    refine (u8_any w.heap.size (w.heap.size + 1) _ 78 [] _ (by omega) (by omega) hw.out (by simp) E1.out).mono ?_
    rintro e w2 ⟨rfl, hs⟩
    obtain ⟨v2, _, hw2, hz2, hb2⟩ := LAST.out [b8 78] w2 (by simp) hs
    have hs1 := Lib.hid hs
    have HW2 := Lib.hid hw2
    clear hw2 hs
    go_wp2_with fail
    refine (u32_any w.heap.size (w.heap.size + 1) v2 _ [b8 78] w2 (by omega) (by omega) HW2.out (by simp) hz2).mono ?_
    rintro e w3 ⟨rfl, hs⟩
    have hs3 : WrStep (w.alloc (.cells #[.slice none 0 0] 79)) w.heap.size (w.heap.size + 1) (.slice none 0 0) ([b8 78] ++ low (xs.length : Int) 4) w3 := by
      obtain ⟨v9, k1, k2, k3⟩ := hs
      obtain ⟨v8, j1, j2, j3⟩ := hs1.out
      refine ⟨v9, k1, ((Turns.refl (fun _ => False) _).mono (fun _ _ h => h.elim) |>.trans j2 (fun _ _ h => h)).trans k2 (fun i hi e => ?_), ?_⟩
      · rcases e with e | e
        · exact .inl e
        · have := (World.ownsRow.lt HW2.out.2 i e).1
          simp at hi
          omega
      · rcases k3 with k3 | ⟨k, hk, hkk⟩
        · rw [k3]
          cases hv : v2.ownBlock with
          | none => exact .inl rfl
          | some g => exact .inr ⟨g, rfl, by have := (World.ownsRow.lt HW2.out.2 g hv).1; simp; omega⟩
        · exact .inr ⟨k, hk, by simp; omega⟩
    obtain ⟨v3, hx3, hw3, hz3, hb3⟩ := LAST.out _ w3 (by simp [low_length]) hs3
    clear hs hs3
    have HX3 := Lib.hid hx3
    have HW3 := Lib.hid hw3
    clear hx3 hw3
    go_wp2_with fail
    refine (raw_any w.heap.size (w.heap.size + 1) B v3 _ _ xs w3 HW3.out HX3.out (by simp [low_length]; omega) hz3).mono ?_
    rintro e w4 ⟨rfl, hs⟩
    obtain ⟨⟨v4, hw4⟩, hb4⟩ := FIN.out w3 w4 _ v3 hb3 HW3.out hs hz3
    clear hs
    go_wp2_with fail
    refine (out_any w.heap.size (w.heap.size + 1) v4 _ w4 hw4 (by simp [low_length]; omega)).mono ?_
    intro e w5 hfr
    obtain ⟨u5, rfl, hown5, hb5⟩ := fresh_v hfr
    go_wp2_with fail
    go_ret
    exact fresh_of (own_base hown5 hb4.size) (hb4.trans (hb5.mono hb4.size))

theorem push_any (B : Nat) (x : Value) (xs : List UInt8) (w : World) (hx : Byt w B x xs) (hB : B ≤ w.heap.size) (hl : xs.length ≤ 47000000) :
    Calls Try.prog 18 #[x] w (Fresh w (pushB xs)) := by
  cases h : aloneB xs with
  | none => exact push_head B x xs h w hx hB hl
  | some c => exact push_alone B x xs c h w hx
end Go.Proofs.Ytpfobbhoahnebaa

/-
  The fixed fact of layer 11. Conditions: none.
-/
namespace Go.Proofs.Ytpfobbhoahnebaa
open Go.RowKit

set_option maxHeartbeats 400000 in
theorem bclone_any (B : Nat) (x : Value) (xs : List UInt8) (w : World) (hr : Byt w B x xs) (hlen : xs.length ≤ 140737488355328) :
    Calls Try.prog 66 #[x] w (Fresh w xs) := by
  obtain ⟨i0, hi, hz0, hz1, hz2⟩ := info_parts info_u8
  obtain ⟨A, c, hx⟩ := hr.form
  subst hx
  rcases A with _ | ad
  · have hnil : xs = [] := by
      obtain ⟨A', c', e, _, _, hA, _⟩ := hr
      exact (hA (Value.slice.inj e).1.symm).1
    subst hnil
    have hq := Lib.run_eql_slice_nil (P := Try.prog) w 22 5 none 0 c 0 0 slice_u8
    go_enter Try.func66, Try.ntmps66
    go_wp2
    go_ret
    exact fresh_of (World.ownsRow_nil _ _ _ _) (Below.refl _ _)
  · have hq := Lib.run_eql_slice_nil (P := Try.prog) w 22 5 (some ad) xs.length c 0 0 slice_u8
    have hr1 : Byt (w.alloc (.cells #[] 5)) B (.slice (some ad) xs.length c) xs := by
      obtain ⟨A', c', e, h1, h2, h3, h4⟩ := hr
      refine ⟨A', c', e, h1, h2, h3, fun hne => ?_⟩
      obtain ⟨b, o, e1, hb, hc⟩ := h4 hne
      exact ⟨b, o, e1, hb, fun j u hu => cell_later (Below.alloc (Below.refl _ _) (Nat.le_refl _) _) (hc j u hu)⟩
    have hown : (w.alloc (.cells #[] 5)).ownsRow w.heap.size 5 1 (.slice (some ⟨w.heap.size, 0, none⟩) 0 0) 0 [] :=
      World.ownsRow_made w #[] 0 (Nat.le_refl _) (by unfold maxLen; omega) rfl
    go_enter Try.func66, Try.ntmps66
    go_wp2_with (at_builtin; refine wpList_append_bytes rfl (.tmp 5) (.tmp 6) 22 rfl w.heap.size 5 i0 slice_u8 hi hz0 hz1 hz2 _ 0 [] rfl hown B _ xs rfl hr1 (by omega) (by simp) ?_; intro v1 w1 hown1 hg1 hat1; obtain ⟨A1, c1, rfl⟩ := own_form hown1)
    go_ret
    rw [Nat.zero_add] at *
    exact fresh_of hown1 ((Below.alloc (Below.refl _ _) (Nat.le_refl _) _).grown hg1 (by simp) (fun k hk => by cases hk; exact Nat.le_refl _))


theorem prog_short (B : Nat) (x : Value) (xs : List UInt8) (w : World) (hx : Byt w B x xs) (hl : xs.length < 4) :
    Calls Try.prog 29 #[x] w fun e w' => e = .returned (.tuple #[.int .i64 0, .slice none 0 0, .bool false]) ∧ w = w' := by
  obtain ⟨A, c, rfl⟩ := hx.form
  clear hx
  have hd : decide ((xs.length : Int) < 4) = true := decide_eq_true (by omega)
  go_enter Try.func29, Try.ntmps29
  go_wp2_with fail
  go_ret3
  exact ⟨rfl, rfl⟩

theorem multi_few (A : Option Addr) (n c : Nat) (w : World) (hn : n < 4) :
    Calls Try.prog 64 #[.slice A n c] w fun e w' => e = .returned (.bool false) ∧ w = w' := by
  have hd : decide ((n : Int) - 3 < 1) = true := decide_eq_true (by omega)
  go_enter Try.func64, Try.ntmps64
  go_wp2_with fail
  go_ret
  exact ⟨rfl, rfl⟩

theorem parse_fixed : parseP [106, 1, 2] = some [(106, []), (1, [2])] := by
  rw [parseP_ok (by decide), show (opR 106 [1, 2]).2.2 = [1, 2] by decide, parseP_ok (by decide), show (opR 1 [2]).2.2 = [] by decide, parseP_nil]
  decide
theorem parse_fixed2 : parseP [1, 2] = some [(1, [2])] := by
  rw [parseP_ok (by decide), show (opR 1 [2]).2.2 = [] by decide, parseP_nil]
  decide

def KindSix (w : World) (e : Ending) (w' : World) : Prop := ∃ A c, e = .returned (.tuple #[.int .i64 6, .slice A 1 c]) ∧ Below w.heap.size w w'

set_option maxRecDepth 100000 in
set_option maxHeartbeats 3200000 in
theorem kind_fixed (B g : Nat) (w : World) (hx : Byt w B (.slice (some ⟨g, 0, none⟩) 3 3) [106, 1, 2]) (hB : B ≤ w.heap.size) :
    Calls Try.prog 26 #[.slice (some ⟨g, 0, none⟩) 3 3] w (KindSix w) := by
  have hP := Lib.hid (prog_short B _ [106, 1, 2] w hx (by simp))
  have hR := parse_any B _ [106, 1, 2] w hx (by simp)
  unfold Parsed at hR
  rw [parse_fixed] at hR
  dsimp only at hR
  have HR := Lib.hid hR
  obtain ⟨A', c', e0, _, _, _, h4⟩ := hx
  obtain ⟨b, o, e1, hb, hc⟩ := h4 (by simp)
  obtain ⟨e2, _, _⟩ := Value.slice.inj e0
  rw [e1] at e2
  obtain ⟨rfl, rfl, _⟩ := Addr.mk.inj (Option.some.inj e2)
  have hc0 : w.cell? ⟨g, 0, none⟩ = some (.int .u8 106) := hc 0 106 rfl
  have htl : Byt w B (.slice (some ⟨g, 1, none⟩) 2 2) [1, 2] := ⟨_, _, rfl, Nat.le_refl _, by unfold maxLen; simp, (by intro h; cases h), fun _ => ⟨g, 1, rfl, hb, fun j u hu => by
    have := hc (j + 1) u (by simpa using hu)
    rw [Nat.zero_add] at this
    rw [Nat.add_comm 1 j]
    exact this⟩⟩
  have HT := Lib.hid htl
  clear hR hc h4 e0 e1 e2 htl
  have hgw : g < w.heap.size := by omega
  go_enter Try.func26, Try.ntmps26
  go_wp2_with fail
  refine hP.out.mono ?_
  rintro e w1 ⟨rfl, rfl⟩
  go_wp2_with fail
  refine HR.out.mono ?_
  rintro e w1 ⟨A1, c1, L, rfl, hL, hops, hb1⟩
  have hll : L.length = 2 := by have := congrArg List.length hL; simpa using this
  have hcodes : L.map Piece.code = [106, 1] := by
    have h := congrArg (List.map Prod.fst) hL
    rw [List.map_map] at h
    exact h
  have OR := Lib.hid (OpsR.of_at hops)
  have HC := Lib.hid hcodes
  clear hL hcodes hops HR
  rw [show ([(106, []), (1, [2])] : List (UInt8 × List UInt8)).length = 2 from rfl] at OR ⊢
  have s1 := hb1.size
  have HB1 := Lib.hid hb1
  clear hb1
  go_wp2_with fail
  refine (coded_any w1.heap.size (w1.heap.size + 1) _ _ L [118, 169, 20, 136, 172] _ (OR.out.below ((Below.refl _ w1).alloc (Nat.le_refl _) _)) (Byt.made w1 _ _ [118, 169, 20, 136, 172] rfl (by unfold maxLen; simp)) (by simp) (by simp)).mono ?_
  rw [HC.out]
  rintro e w2 ⟨rfl, hb2⟩
  have s2 := hb2.size
  have HB2 := Lib.hid (((Below.refl _ w1).alloc (Nat.le_refl _) _).trans (hb2.mono (by simp)))
  clear hb2
  rw [World.size_alloc] at s2
  go_wp2_with fail
  refine (coded_any w1.heap.size (w2.heap.size + 1) _ _ L [169, 20, 135] _ ((OR.out.below HB2.out).below ((Below.refl _ w2).alloc (by omega) _)) (Byt.made w2 _ _ [169, 20, 135] rfl (by unfold maxLen; simp)) (by simp; omega) (by simp)).mono ?_
  rw [HC.out]
  rintro e w3 ⟨rfl, hb3⟩
  have s3 := hb3.size
  rw [World.size_alloc] at s3
  have HB3 := Lib.hid (((HB1.out.trans (HB2.out.mono s1)).alloc (by omega) _).trans (hb3.mono (by simp; omega)))
  clear hb3 HC OR hll
  go_wp2_with fail
  refine (multi_few A1 2 c1 _ (by omega)).mono ?_
  rintro e w4 ⟨rfl, rfl⟩
  have hc3 : w3.cell? ⟨g, 0, none⟩ = some (.int .u8 106) := (HB3.out.cell (p := ⟨g, 0, none⟩) hgw).trans hc0
  clear hc0
  have hPu := pushes_any B _ [1, 2] w3 (HT.out.below (HB3.out.mono hB)) (by simp)
  have hpb : pushesB [1, 2] = true := by unfold pushesB; rw [parse_fixed2]; rfl
  rw [hpb] at hPu
  have HPu := Lib.hid hPu
  clear hPu hpb
  go_wp2_with fail
  refine HPu.out.mono ?_
  rintro e w5 ⟨rfl, hb5⟩
  have HB5 := Lib.hid (HB3.out.trans (hb5.mono (by omega)))
  clear hb5
  go_wp2_with fail
  refine (bclone_any B _ [1, 2] w5 (HT.out.below (HB5.out.mono hB)) (by simp)).mono ?_
  intro e w6 hfr
  obtain ⟨u6, rfl, hown6, hb6⟩ := fresh_v hfr
  obtain ⟨A6, c6, rfl⟩ := hown6.form
  clear hfr
  go_wp2_with fail
  go_ret2
  exact ⟨_, _, rfl, (HB5.out.trans (hb6.mono HB5.out.size)).alloc (by have := HB5.out.size; have := hb6.size; omega) _⟩

theorem push_five : pushB [5] = [85] := by decide
theorem byt_lit (w : World) (l : List Value) (ys : List UInt8) (h : l = ys.map bv) (hl : ys.length ≤ 100) :
    Byt (w.alloc (.cells l.toArray 5)) (w.heap.size + 1) (.slice (some ⟨w.heap.size, 0, none⟩) ys.length ys.length) ys := Byt.made w _ l ys h (by unfold maxLen; omega)

set_option maxRecDepth 100000 in
set_option maxHeartbeats 3200000 in
theorem awake_any (w : World) : Calls Try.prog 9 #[] w fun e w' => e = .returned (.bool true) ∧ Below w.heap.size w w' := by
  go_enter Try.func9, Try.ntmps9
  go_wp2_with fail
  refine (kind_fixed (w.heap.size + 1) w.heap.size _ (byt_lit w _ [106, 1, 2] rfl (by simp)) (by simp)).mono ?_
  rintro e w1 ⟨A1, c1, rfl, hb1⟩
  have s1 := hb1.size
  rw [World.size_alloc] at s1
  have HB1 := Lib.hid (((Below.refl _ w).alloc (Nat.le_refl _) _).trans (hb1.mono (by simp)))
  clear hb1
  go_wp2_with fail
  refine (push_any (w1.heap.size + 1) _ [5] _ (byt_lit w1 _ [5] rfl (by simp)) (by simp) (by simp)).mono ?_
  rw [push_five]
  intro e w2 hfr
  obtain ⟨u2, rfl, hown2, hb2⟩ := fresh_v hfr
  obtain ⟨A2, c2, rfl⟩ := hown2.form
  have s2 := hb2.size
  rw [World.size_alloc] at s2
  have HB2 := Lib.hid ((HB1.out.alloc (by omega) _).trans (hb2.mono (by simp; omega)))
  clear hb2 hfr hown2
  go_wp2_with fail
  refine (push_any (w2.heap.size + 1) _ [5] _ (byt_lit w2 _ [5] rfl (by simp)) (by simp) (by simp)).mono ?_
  rw [push_five]
  intro e w3 hfr
  obtain ⟨u3, rfl, hown3, hb3⟩ := fresh_v hfr
  obtain ⟨g3, c3, rfl, _, _, _⟩ := hown3.block (by simp)
  have hc3 : w3.cell? ⟨g3, 0, none⟩ = some (.int .u8 85) := hown3.cell (k := 0) (q := 85) rfl
  have s3 := hb3.size
  rw [World.size_alloc] at s3
  have HB3 := Lib.hid ((HB2.out.alloc (by omega) _).trans (hb3.mono (by simp; omega)))
  clear hb3 hfr hown3
  go_wp2_with fail
  refine (truth_any (w3.heap.size + 1) _ [1] _ (byt_lit w3 _ [1] rfl (by simp))).mono ?_
  rintro e w4 ⟨rfl, rfl⟩
  have ht : truthB [1] = true := by decide
  rw [ht]
  go_wp2_with fail
  refine (number_any (-255) _ (by decide) (by decide)).mono ?_
  have hn : numB (-255) = [255, 128] := by
    unfold numB
    rw [if_pos (by decide), show mag (-255) = 255 by decide, bytesN_pos (by decide), show 255 / 256 = 0 by decide, bytesN_zero]
    decide
  rw [hn]
  intro e w5 hfr
  obtain ⟨u5, rfl, hown5, hb5⟩ := fresh_v hfr
  obtain ⟨A5, c5, rfl⟩ := hown5.form
  have HB5 := Lib.hid ((HB3.out.alloc (by omega) _).trans (hb5.mono (by simp; omega)))
  clear hb5 hfr hown5 hc3
  go_wp2_with fail
  go_ret
  exact ⟨rfl, HB5.out⟩
end Go.Proofs.Ytpfobbhoahnebaa

/-
  The law on a script's numbers. Conditions: none.
-/
namespace Go.Proofs.Ytpfobbhoahnebaa
open Go.RowKit

theorem byt_take {w : World} {B n c : Nat} {A : Option Addr} {xs : List UInt8} (h : Byt w B (.slice A xs.length c) xs) (hn : n ≤ xs.length) : Byt w B (.slice A n c) (xs.take n) := by
  obtain ⟨A', c', e, h1, h2, h3, h4⟩ := h
  obtain ⟨e1, _, e3⟩ := Value.slice.inj e
  subst e1 e3
  refine ⟨A, c, by rw [List.length_take, Nat.min_eq_left hn], by rw [List.length_take]; omega, h2, fun hA => by rw [(h3 hA).1]; exact ⟨by simp, (h3 hA).2⟩, fun hne => ?_⟩
  obtain ⟨b, o, e, hb, hc⟩ := h4 (by rintro rfl; simp at hne)
  exact ⟨b, o, e, hb, fun j u hu => hc j u (by rw [List.getElem?_take] at hu; split at hu; exact hu; cases hu)⟩

set_option maxHeartbeats 400000 in
theorem shorts_any (B : Nat) (x : Value) (xs : List UInt8) (n : Nat) (hn : n ≤ 9223372036854775807) (w : World) (hx : Byt w B x xs) :
    Calls Try.prog 10 #[x, .int .i64 (n : Int)] w fun e w' => (∃ y, e = .returned y ∧ Byt w B y (xs.take n)) ∧ w = w' := by
  have hl := hx.len
  unfold maxLen at hl
  obtain ⟨A, c, rfl⟩ := hx.form
  obtain ⟨hc1, hc2⟩ := hx.cap
  by_cases hlt : n < xs.length
  · have hlt' : (n : Int) < xs.length := by omega
    have hd : decide ((n : Int) < xs.length) = true := decide_eq_true hlt'
    have HX := Lib.hid (byt_take hx (Nat.le_of_lt hlt))
    clear hx
    go_enter Try.func10, Try.ntmps10
    go_wp2_with fail
    go_ret
    exact ⟨⟨_, rfl, HX.out⟩, rfl⟩
  · have hlt' : ¬ (n : Int) < xs.length := by omega
    have hd : decide ((n : Int) < xs.length) = false := decide_eq_false hlt'
    have HX : Hid (Byt w B (.slice A xs.length c) (xs.take n)) := Lib.hid (by rw [List.take_of_length_le (by omega)]; exact hx)
    clear hx
    go_enter Try.func10, Try.ntmps10
    go_wp2_with fail
    go_ret
    exact ⟨⟨_, rfl, HX.out⟩, rfl⟩

theorem numB_eight (n : Int) (h0 : -9223372036854775808 ≤ n) (h1 : n ≤ 9223372036854775807) : (numB n).length ≤ 8 := by
  have hb := bytesN_eight n h0 h1
  have hm := mag_le n h0 h1
  have ht : (topped (bytesN (mag n))).length ≤ 8 := by
    by_cases h : mag n = 0
    · rw [h, bytesN_zero]; simp [topped_nil]
    · obtain ⟨fr, x, e, _⟩ := bytesN_last (mag n) (by omega)
      have hv := valN_bytesN (mag n)
      rw [e] at hb hv ⊢
      by_cases hx : 128 ≤ x.toNat
      · rw [topped_hi hx]
        rw [valN_append] at hv
        rw [List.length_append, List.length_cons, List.length_nil] at hb
        by_cases h7 : fr.length = 7
        · exfalso
          have : 256 ^ fr.length * valN [x] ≥ 256 ^ 7 * 128 := by rw [h7]; exact Nat.mul_le_mul_left _ (by show 128 ≤ x.toNat + 256 * 0; omega)
          have h3 : (256 : Nat) ^ 7 * 128 = 9223372036854775808 := by decide
          omega
        · rw [List.length_append, List.length_append, List.length_cons, List.length_nil, List.length_cons, List.length_nil]; omega
      · rw [topped_lo (by omega)]; exact hb
  unfold numB
  split
  · rw [signd_length]; exact ht
  · exact ht

theorem from_back (n : Int) (h0 : -9223372036854775808 ≤ n) (h1 : n ≤ 9223372036854775807) : fromB (numB n) 9 = (clip n, 0) := by
  have h8 := numB_eight n h0 h1
  have hag := again_any (numB n) h8
  rw [back_numB, numB_clip, decide_eq_true rfl] at hag
  unfold fromB
  rw [if_neg (by omega)]
  by_cases hn : numB n = []
  · rw [if_pos hn]
    have := back_numB n
    rw [hn, valS_nil] at this
    rw [← this]
  · rw [if_neg hn]
    rw [decide_eq_false hn, Bool.false_or] at hag
    rw [if_pos hag.symm, back_numB]

theorem truth_num (n : Int) : truthB (numB n) = (n != 0) := by
  rw [truth_numB, Bool.eq_iff_iff]
  simp

set_option maxRecDepth 100000 in
set_option maxHeartbeats 6400000 in
theorem numbers_law (n : Int) (B : Nat) (x : Value) (bs : List UInt8) (most : Int) (w : World) (h0 : -9223372036854775808 ≤ n) (h1 : n ≤ 9223372036854775807) (hm0 : -9223372036854775808 ≤ most) (hm1 : most ≤ 9223372036854775807) (hx : Byt w B x bs) (hB : B ≤ w.heap.size) :
    Calls Try.prog 5 #[.int .i64 n, x, .int .i64 most] w fun e w' => e = .returned (.bool true) ∧ Below w.heap.size w w' := by
  obtain ⟨A, c, hxf⟩ := hx.form
  obtain ⟨cs, hcs⟩ : ∃ cs, cs = bs.take 20 := ⟨_, rfl⟩
  have HX := Lib.hid hx
  have hL8 := numB_eight n h0 h1
  have hbk := from_back n h0 h1
  obtain ⟨N, hN⟩ : ∃ N, N = numB n := ⟨_, rfl⟩
  have htn := truth_num n
  have HNUM := Lib.hid (fun W => number_any n W h0 h1)
  have HREF := Lib.hid (fun W => rnumber_any n W h0 h1)
  rw [← hN] at HNUM HREF hL8 hbk htn
  obtain ⟨p, hp⟩ : ∃ p, p = fromB cs most := ⟨_, rfl⟩
  obtain ⟨t, ht⟩ : ∃ t, t = truthB cs := ⟨_, rfl⟩
  have HCS := Lib.hid hcs
  have HP := Lib.hid hp
  have HT := Lib.hid ht
  have HBK := Lib.hid hbk
  have HTN := Lib.hid htn
  have HL8 := Lib.hid hL8
  clear hx hcs hp ht hbk htn hN hL8
  subst hxf
  go_enter Try.func5, Try.ntmps5
  go_wp2_with fail
  refine (awake_any w).mono ?_
  rintro e w1 ⟨rfl, hb1⟩
  have HB1 := Lib.hid hb1
  clear hb1
  go_wp2_with fail
  refine (shorts_any B _ bs 20 (by omega) w1 (HX.out.below (HB1.out.mono hB))).mono ?_
  rintro e w2 ⟨⟨y, rfl, hy⟩, rfl⟩
  rw [← HCS.out] at hy
  obtain ⟨A2, c2, rfl⟩ := hy.form
  have HY := Lib.hid hy
  clear hy HX
  go_wp2_with fail
  refine (HNUM.out _).mono ?_
  intro e w2 hfr
  obtain ⟨u2, rfl, hown2, hb2⟩ := fresh_v hfr
  obtain ⟨A3, c3, rfl⟩ := hown2.form
  have HN2 := Lib.hid (Byt.of_own hown2)
  have HB2 := Lib.hid (HB1.out.trans (hb2.mono HB1.out.size))
  have HY2 := Lib.hid (HY.out.below (hb2.mono (Nat.le_trans hB HB1.out.size)))
  clear hfr hown2 hb2 HY HNUM
  go_wp2_with fail
  refine (HREF.out _).mono ?_
  intro e w3 hfr
  obtain ⟨u3, rfl, hown3, hb3⟩ := fresh_v hfr
  obtain ⟨A4, c4, rfl⟩ := hown3.form
  have HN3 := Lib.hid (Byt.of_own hown3)
  have HN2b := Lib.hid (HN2.out.below hb3)
  have HB3 := Lib.hid (HB2.out.trans (hb3.mono HB2.out.size))
  have HY3 := Lib.hid (HY2.out.below (hb3.mono (Nat.le_trans hB HB2.out.size)))
  have HS23 := Lib.hid hb3.size
  clear hfr hown3 hb3 HREF HN2 HY2
  go_wp2_with fail
  refine (equal_yes _ _ _ _ N N w3 HN2b.out HN3.out rfl).mono ?_
  rintro e w4 ⟨rfl, rfl⟩
  clear HN3
  go_wp2_with fail
  refine (truth_any B _ cs w3 HY3.out).mono ?_
  rw [← HT.out]
  rintro e w4 ⟨rfl, rfl⟩
  go_wp2_with fail
  refine (rtruth_any B _ cs w3 HY3.out).mono ?_
  rw [← HT.out]
  rintro e w4 ⟨rfl, rfl⟩
  go_wp2_with fail
  refine (truth_any _ _ N w3 HN2b.out).mono ?_
  rw [HTN.out]
  rintro e w4 ⟨rfl, rfl⟩
  go_wp2_with fail
  refine (from_any _ _ N 9 (by omega) (by omega) w3 HN2b.out HS23.out).mono ?_
  rw [HBK.out]
  rintro e w4 ⟨rfl, hb4⟩
  have HB4 := Lib.hid (HB3.out.trans (hb4.mono HB3.out.size))
  have HY4 := Lib.hid (HY3.out.below (hb4.mono (Nat.le_trans hB HB3.out.size)))
  clear hb4 HY3 HN2b
  have hL8 : (N.length : Int) ≤ 8 := by have := HL8.out; omega
  by_cases hmin : n = -9223372036854775808
  · subst hmin
    have hcl : clip (-9223372036854775808) = -9223372036854775807 := rfl
    rw [hcl]
    go_wp2_with fail
    refine (from_any _ _ cs most hm0 hm1 w4 HY4.out (Nat.le_trans hB HB4.out.size)).mono ?_
    rw [← HP.out]
    rintro e w5 ⟨rfl, hb5⟩
    have HB5 := Lib.hid (HB4.out.trans (hb5.mono HB4.out.size))
    have HY5 := Lib.hid (HY4.out.below (hb5.mono (Nat.le_trans hB HB4.out.size)))
    clear hb5
    go_wp2_with fail
    refine (rfrom_any _ _ cs most hm1 w5 HY5.out).mono ?_
    rw [← HP.out]
    rintro e w6 ⟨rfl, rfl⟩
    go_wp2_with fail
    go_ret
    exact ⟨rfl, HB5.out⟩
  · have hcl : clip n = n := by unfold clip; rw [if_neg hmin]
    rw [hcl]
    clear hcl hmin
    go_wp2_with fail
    refine (from_any _ _ cs most hm0 hm1 w4 HY4.out (Nat.le_trans hB HB4.out.size)).mono ?_
    rw [← HP.out]
    rintro e w5 ⟨rfl, hb5⟩
    have HB5 := Lib.hid (HB4.out.trans (hb5.mono HB4.out.size))
    have HY5 := Lib.hid (HY4.out.below (hb5.mono (Nat.le_trans hB HB4.out.size)))
    clear hb5
    go_wp2_with fail
    refine (rfrom_any _ _ cs most hm1 w5 HY5.out).mono ?_
    rw [← HP.out]
    rintro e w6 ⟨rfl, rfl⟩
    go_wp2_with fail
    go_ret
    exact ⟨rfl, HB5.out⟩
end Go.Proofs.Ytpfobbhoahnebaa

/-
  From an argument that can be read as data to bytes in memory: a slice of bytes, and a slice of the laws' acts. Conditions: none.
-/
namespace Go.Proofs.Ytpfobbhoahnebaa
open Go.ChangeShapes Go.WideShapes Go.ChangeAt Go.RowKit Go.Deep

theorem b8_bv {k : Int} (h0 : 0 ≤ k) (h1 : k ≤ 255) : bv (b8 k) = .int .u8 k := bv_b8_of h0 (by omega)

theorem add_at (b o i : Nat) : (⟨b, o, none⟩ : Addr).add i = ⟨b, o + i, none⟩ := by unfold Addr.add; split <;> simp_all

theorem spot_none {w : World} {a : Addr} {v : Value} (h : w.cell? a = some v) : a = ⟨a.block, a.off, none⟩ := by
  have := World.cell?_spot h
  cases a
  simp_all

/-- A slice of bytes that came in. -/
theorem byt_open {H : Type} {enc : TypeId × Value → H} {P : Program} {w : World} {spare : Nat → Bool} {held : Bool} {fuel : Nat} {t e : TypeId} {v : Value} {x : DataW H × List MemPlace}
    (ht : P.underlying t = some (.slice e)) (he : P.underlying e = some (.int .u8)) (hc : P.cellsOf e = 1) (h : DataW.trod enc P w 0 spare held fuel t [v] = some x) : ∃ bs, Byt w w.heap.size v bs := by
  rcases open_ints ht he hc h with ⟨hcs, _⟩ | ⟨a, len, cap, zs, hcs, _, hl, hm, hz, _, hcell, hwf⟩
  · simp only [List.cons.injEq, and_true] at hcs
    subst hcs
    exact ⟨[], Byt.nil _ _⟩
  · simp only [List.cons.injEq, and_true] at hcs
    subst hcs
    have hlz : len ≤ zs.length := by rw [hz]; split <;> omega
    have hlen : ((zs.take len).map b8).length = len := by simp; omega
    refine ⟨(zs.take len).map b8, some a, cap, by rw [hlen], by rw [hlen]; exact hl, hm, (by intro h; cases h), fun hne => ?_⟩
    have hpos : 0 < len := by
      rcases Nat.eq_zero_or_pos len with h0 | h0
      · rw [h0] at hne; simp at hne
      · exact h0
    have h0 := hcell 0 (by omega)
    have hadd0 : a.add 0 = a := by unfold Addr.add; simp
    rw [hadd0] at h0
    have hsp := spot_none h0
    refine ⟨a.block, a.off, by rw [← hsp], World.block_lt_of_cell? _ _ h0, fun j u hu => ?_⟩
    have hj : j < len := by
      have := (List.getElem?_eq_some_iff.1 hu).1
      omega
    have hcj := hcell j (by omega)
    have hadd : a.add j = ⟨a.block, a.off + j, none⟩ := (congrArg (fun q : Addr => q.add j) hsp).trans (add_at _ _ _)
    rw [hadd] at hcj
    rw [hcj]
    have hzj : zs.getD j 0 = zs[j]'(by omega) := by rw [List.getD, List.getElem?_eq_getElem (show j < zs.length by omega)]; rfl
    rw [List.getElem?_map, List.getElem?_take, if_pos hj, List.getElem?_eq_getElem (by omega)] at hu
    simp at hu
    subst hu
    have hw := hwf (zs[j]'(by omega)) (List.getElem_mem _)
    rw [hzj]
    have hw2 := bounds_u8 hw
    rw [b8_bv]
    · exact hw2.1
    · have := hw2.2
      omega



theorem cells_u8 : Try.prog.cellsOf 5 = 1 := by kernel_rfl
theorem own : ownKnob Try.prog.godebug = none := by kernel_rfl
theorem laidOut_ : laidOutB Try.prog = true := by kernel_rfl
theorem byt_came {H : Type} {enc : TypeId × Value → H} {w : World} {v : Value} {d : DataW H} {p : List MemPlace} (h : DataW.Trod enc Try.prog w 0 (fun _ => true) true 22 v d p) (hv : ∃ A n c, v = .slice A n c) : ∃ bs, Byt w w.heap.size v bs := by
  obtain ⟨A, n, c, rfl⟩ := hv
  obtain ⟨fuel, hf⟩ := h
  exact byt_open slice_u8 Try.underlying5 cells_u8 hf
end Go.Proofs.Ytpfobbhoahnebaa

/-
  What is pushed is parsed as one operation; the reference's Push. Conditions: sizes within the reach.
-/
namespace Go.Proofs.Ytpfobbhoahnebaa
open Go.RowKit

theorem val_low (k : Nat) : ∀ n : Int, 0 ≤ n → val (low n k) = n % 256 ^ k := by
  induction k with
  | zero => intro n _; simp [low, val, Int.emod_one]
  | succ k ih =>
    intro n hn
    have h := ih (n / 256) (by omega)
    simp only [low, val, b8_toNat, h]
    have hp : (0 : Int) < 256 ^ k := Int.pow_pos (by decide)
    rw [Int.pow_succ, Int.mul_comm (256 ^ k) 256]
    have e1 : n % (256 * 256 ^ k) = n % 256 + 256 * (n / 256 % 256 ^ k) := by
      have h1 : n = 256 * (n / 256) + n % 256 := (Int.mul_ediv_add_emod n 256).symm
      have h2 : n / 256 = 256 ^ k * (n / 256 / 256 ^ k) + n / 256 % 256 ^ k := (Int.mul_ediv_add_emod (n / 256) (256 ^ k)).symm
      have h3 : 0 ≤ n / 256 % 256 ^ k ∧ n / 256 % 256 ^ k < 256 ^ k := ⟨Int.emod_nonneg _ (by omega), Int.emod_lt_of_pos _ hp⟩
      have h4 : n = (n % 256 + 256 * (n / 256 % 256 ^ k)) + (256 * 256 ^ k) * (n / 256 / 256 ^ k) := by
        have h5 : 256 * (n / 256) = 256 * (256 ^ k * (n / 256 / 256 ^ k)) + 256 * (n / 256 % 256 ^ k) := by
          rw [← Int.mul_add]; exact congrArg (fun q => 256 * q) h2
        rw [Int.mul_assoc]
        omega
      have h6 : (n % 256 + 256 * (n / 256 % 256 ^ k)) % (256 * 256 ^ k) = n % 256 + 256 * (n / 256 % 256 ^ k) := by
        apply Int.emod_eq_of_lt
        · omega
        · omega
      calc n % (256 * 256 ^ k) = ((n % 256 + 256 * (n / 256 % 256 ^ k)) + (256 * 256 ^ k) * (n / 256 / 256 ^ k)) % (256 * 256 ^ k) := by rw [← h4]
        _ = (n % 256 + 256 * (n / 256 % 256 ^ k)) % (256 * 256 ^ k) := by rw [Int.add_mul_emod_self_left]
        _ = _ := h6
    rw [e1]

theorem take_app {us bs : List UInt8} {k : Nat} (h : us.length = k) : (us ++ bs).take k = us := by rw [← h, List.take_left]
theorem drop_app {us bs : List UInt8} {k : Nat} (h : us.length = k) : (us ++ bs).drop k = bs := by rw [← h, List.drop_left]

theorem numR_low (n : Int) (k : Nat) (ys : List UInt8) (hn : 0 ≤ n) : numR k 0 (low n k ++ ys) = (n % 256 ^ k, 0, ys) := by
  unfold numR
  rw [if_neg (by decide), if_neg (by rw [List.length_append, low_length]; omega), take_app (low_length n k), drop_app (low_length n k), val_low k n hn]


theorem rawR_app (ds zs : List UInt8) : rawR (ds.length : Int) 0 (ds ++ zs) = (ds, 0, zs) := by
  unfold rawR
  rw [if_neg (by decide), if_neg (by rw [List.length_append]; omega), Int.toNat_natCast, List.take_left, List.drop_left]
theorem opR_none {c : UInt8} (h : c.toNat = 0 ∨ 79 ≤ c.toNat) (xs : List UInt8) : opR c xs = ([], 0, xs) := by
  have hs : sizeD c xs = (0, 0, xs) := by
    unfold sizeD
    rcases h with h | h
    · rw [if_pos (by omega), h]; rfl
    · rw [if_neg (by omega), if_neg (by omega), if_neg (by omega), if_neg (by omega)]
  unfold opR
  rw [hs]
  have := rawR_app [] xs
  exact this
theorem alone_code {xs : List UInt8} {c : UInt8} (h : aloneB xs = some c) : (c.toNat = 0 ∨ 79 ≤ c.toNat) ∧ c.toNat ≤ 96 := by
  match xs, h with
  | [], h => cases h; exact ⟨.inl rfl, by decide⟩
  | [q], h =>
    rw [alone_one] at h
    split at h
    · cases h; exact ⟨.inr (by decide), by decide⟩
    · split at h
      · cases h
        have : (UInt8.ofNat (80 + q.toNat)).toNat = 80 + q.toNat := by rw [UInt8.toNat_ofNat']; omega
        rw [this]
        omega
      · cases h
  | _ :: _ :: _, h => cases h
/-- The bytes that stand behind the code. -/
def behind (ds : List UInt8) : List UInt8 := if aloneB ds = none then ds else []
theorem push_op (ds : List UInt8) (hl : ds.length ≤ 47000000) : ∃ c rest, pushB ds = c :: rest ∧ (∀ zs, opR c (rest ++ zs) = (behind ds, 0, zs)) ∧ c.toNat ≤ 96 ∧ (aloneB ds = none → c.toNat < 79) ∧ (∀ k, aloneB ds = some k → c = k) := by
  cases h : aloneB ds with
  | some c =>
    obtain ⟨h1, h2⟩ := alone_code h
    refine ⟨c, [], by unfold pushB; rw [h], fun zs => ?_, h2, (by intro e; cases e), fun k hk => by cases hk; rfl⟩
    rw [List.nil_append, opR_none h1]
    unfold behind
    rw [h, if_neg (by simp)]
  | none =>
    have hb : behind ds = ds := by unfold behind; rw [h, if_pos rfl]
    have hp : pushB ds = headB ds.length ++ ds := by unfold pushB; rw [h]
    rw [hb, hp]
    have hn : (b8 (ds.length : Int)).toNat = ds.length % 256 := by have := b8_toNat (ds.length : Int); omega
    by_cases c1 : ds.length < 76
    · refine ⟨b8 (ds.length : Int), ds, by unfold headB; rw [if_pos c1]; rfl, fun zs => ?_, by omega, fun _ => by omega, (by intro k hk; cases hk)⟩
      unfold opR sizeD
      rw [if_pos (by omega)]
      dsimp only
      rw [hn, Nat.mod_eq_of_lt (by omega)]
      exact rawR_app ds zs
    by_cases c2 : ds.length ≤ 255
    · refine ⟨76, b8 (ds.length : Int) :: ds, by unfold headB; rw [if_neg c1, if_pos c2]; rfl, fun zs => ?_, by decide, fun _ => by decide, (by intro k hk; cases hk)⟩
      unfold opR sizeD
      rw [if_neg (by decide), if_pos (by decide), List.cons_append, numR_one]
      dsimp only
      rw [hn, Nat.mod_eq_of_lt (by omega)]
      exact rawR_app ds zs
    by_cases c3 : ds.length ≤ 65535
    · refine ⟨77, low (ds.length : Int) 2 ++ ds, by unfold headB; rw [if_neg c1, if_neg c2, if_pos c3]; rfl, fun zs => ?_, by decide, fun _ => by decide, (by intro k hk; cases hk)⟩
      unfold opR sizeD
      rw [if_neg (by decide), if_neg (by decide), if_pos (by decide), List.append_assoc, numR_low _ _ _ (by omega)]
      dsimp only
      rw [show (ds.length : Int) % 256 ^ 2 = (ds.length : Int) by omega]
      exact rawR_app ds zs
    · refine ⟨78, low (ds.length : Int) 4 ++ ds, by unfold headB; rw [if_neg c1, if_neg c2, if_neg c3]; rfl, fun zs => ?_, by decide, fun _ => by decide, (by intro k hk; cases hk)⟩
      unfold opR sizeD
      rw [if_neg (by decide), if_neg (by decide), if_neg (by decide), if_pos (by decide), List.append_assoc, numR_low _ _ _ (by omega)]
      dsimp only
      rw [show min ((ds.length : Int) % 256 ^ 4) 2147483647 = (ds.length : Int) by omega]
      exact rawR_app ds zs
/-- Two pushes, one behind the other. -/
theorem push_two (ds es : List UInt8) (hd : ds.length ≤ 47000000) (he : es.length ≤ 47000000) :
    ∃ c1 c2, parseP (pushB ds ++ pushB es) = some [(c1, behind ds), (c2, behind es)] ∧ (aloneB ds = none → c1.toNat < 79) ∧ (∀ k, aloneB ds = some k → c1 = k) := by
  obtain ⟨c1, r1, e1, o1, _, k1, k2⟩ := push_op ds hd
  obtain ⟨c2, r2, e2, o2, _, _, _⟩ := push_op es he
  refine ⟨c1, c2, ?_, k1, k2⟩
  have h2 : parseP (pushB es) = some [(c2, behind es)] := by
    have := o2 []
    rw [List.append_nil] at this
    rw [e2, parseP_ok (by rw [this]), this, parseP_nil]
    rfl
  rw [e1, List.cons_append, parseP_ok (by rw [o1]), o1, h2]
  rfl
theorem push_pushes (ds : List UInt8) (hd : ds.length ≤ 47000000) : pushesB (pushB ds) = true := by
  obtain ⟨c1, r1, e1, o1, l1, _, _⟩ := push_op ds hd
  have := o1 []
  rw [List.append_nil] at this
  have h2 : parseP (pushB ds) = some [(c1, behind ds)] := by
    rw [e1, parseP_ok (by rw [this]), this, parseP_nil]
    rfl
  unfold pushesB
  rw [h2]
  simp
  omega

set_option maxRecDepth 100000 in
set_option maxHeartbeats 3200000 in
theorem rpush_head (B : Nat) (x : Value) (xs : List UInt8) (h : aloneB xs = none ∨ xs = []) (w : World) (hx : Byt w B x xs) (hB : B ≤ w.heap.size) (hl : xs.length ≤ 47000000) :
    Calls Try.prog 19 #[x] w (Fresh w (pushB xs)) := by
  obtain ⟨i0, hi, hz0, hz1, hz2⟩ := info_parts info_u8
  have hp : pushB xs = headB xs.length ++ xs := by
    rcases h with h | rfl
    · unfold pushB; rw [h]
    · rfl
  have HX := Lib.hid hx
  by_cases h1 : xs.length = 1
  · match xs, h1 with
    | [q], _ =>
    obtain ⟨A, c, rfl, _, _, _, h4⟩ := hx
    obtain ⟨b, o, rfl, hb, hc⟩ := h4 (by simp)
    have hcell : w.cell? ⟨b, o, none⟩ = some (.int .u8 (q.toNat : Int)) := hc 0 q rfl
    have hq := q.toNat_lt
    rw [alone_one] at h
    have hq1 : ((q.toNat : Int) == 129) = false := by
      have : q ≠ 129 := by rintro rfl; simp at h
      have : q.toNat ≠ 129 := fun e => this (u8_ext e)
      simp only [beq_eq_false_iff_ne, ne_eq]; omega
    have hq2 : ¬ (1 ≤ q.toNat ∧ q.toNat ≤ 16) := fun hh => by
      rcases h with h | h
      · split at h
        · cases h
        · first | cases h | (rw [if_pos hh] at h; cases h)
      · simp at h
    clear h4 hc h hl
    obtain ⟨xs, hxs⟩ : ∃ xs, xs = [q] := ⟨_, rfl⟩
    have hxl : xs.length = 1 := by rw [hxs]; rfl
    rw [← hxs] at hp HX ⊢
    rw [hxl] at HX hp ⊢
    clear hxs
    by_cases hz : 1 ≤ q.toNat
    · have d1 : decide ((1 : Int) ≤ (q.toNat : Int)) = true := decide_eq_true (by omega)
      have d1' : (1 : Int) ≤ (q.toNat : Int) := by omega
      have d2 : decide ((q.toNat : Int) ≤ 16) = false := decide_eq_false (by omega)
      clear hz hq2
      have HOWN := Lib.hid (own_made w 5 [.int .u8 1] ([b8 1]) (by simp [bv_b8]) (by unfold maxLen; simp))
      have HXX := Lib.hid (HX.out.below (((Below.refl _ w).alloc (Nat.le_refl _) (.cells #[.int .u8 1] 5)).mono hB))
      have HBB := Lib.hid ((Below.refl _ w).alloc (Nat.le_refl _) (.cells #[.int .u8 1] 5))
      have HSZ : Hid (w.heap.size ≤ (w.alloc (.cells #[.int .u8 1] 5)).heap.size) := Lib.hid (by simp)
      have HH : Hid (pushB xs = ([b8 1]) ++ xs) := Lib.hid (by rw [hp]; unfold headB; rfl)
      clear hp HX
      go_enter Try.func19, Try.ntmps19
      go_wp2_with (at_builtin; refine wpList_append_bytes rfl (.tmp 60) (.tmp 61) 22 rfl w.heap.size 5 i0 slice_u8 hi hz0 hz1 hz2 _ 1 (([b8 1]).map bv) rfl HOWN.out B _ xs rfl HXX.out (by rw [hxl]; simp) (by have := HSZ.out; omega) ?_; intro v9 w9 hown9 hg9 hat9)
      go_ret
      have h9 := own_b hown9 (by simp)
      rw [← HH.out] at h9
      exact fresh_own h9 (HBB.out.grown hg9 (by have := HSZ.out; omega) (fun j hj => (World.ownsRow.lt HOWN.out j hj).1))
    · have d1 : decide ((1 : Int) ≤ (q.toNat : Int)) = false := decide_eq_false (by omega)
      clear hz hq2
      have HOWN := Lib.hid (own_made w 5 [.int .u8 1] ([b8 1]) (by simp [bv_b8]) (by unfold maxLen; simp))
      have HXX := Lib.hid (HX.out.below (((Below.refl _ w).alloc (Nat.le_refl _) (.cells #[.int .u8 1] 5)).mono hB))
      have HBB := Lib.hid ((Below.refl _ w).alloc (Nat.le_refl _) (.cells #[.int .u8 1] 5))
      have HSZ : Hid (w.heap.size ≤ (w.alloc (.cells #[.int .u8 1] 5)).heap.size) := Lib.hid (by simp)
      have HH : Hid (pushB xs = ([b8 1]) ++ xs) := Lib.hid (by rw [hp]; unfold headB; rfl)
      clear hp HX
      go_enter Try.func19, Try.ntmps19
      go_wp2_with (at_builtin; refine wpList_append_bytes rfl (.tmp 60) (.tmp 61) 22 rfl w.heap.size 5 i0 slice_u8 hi hz0 hz1 hz2 _ 1 (([b8 1]).map bv) rfl HOWN.out B _ xs rfl HXX.out (by rw [hxl]; simp) (by have := HSZ.out; omega) ?_; intro v9 w9 hown9 hg9 hat9)
      go_ret
      have h9 := own_b hown9 (by simp)
      rw [← HH.out] at h9
      exact fresh_own h9 (HBB.out.grown hg9 (by have := HSZ.out; omega) (fun j hj => (World.ownsRow.lt HOWN.out j hj).1))
  · obtain ⟨A, c, hxf⟩ := hx.form
    subst hxf
    have hcap := hx.cap
    have hne : ((xs.length : Int) == 1) = false := by simp only [beq_eq_false_iff_ne, ne_eq]; omega
    clear hx h h1
    by_cases c1 : xs.length < 76
    · have hm : (xs.length : Int) % 256 = xs.length := by omega
      have d1 : decide ((xs.length : Int) ≤ 75) = true := decide_eq_true (by omega)
      have hbb : bv (b8 (xs.length : Int)) = .int .u8 (xs.length : Int) := by rw [bv_b8, hm]
      clear hm
      have HOWN := Lib.hid (own_made w 5 [.int .u8 (xs.length : Int)] ([b8 (xs.length : Int)]) (by rw [List.map_cons, hbb]; rfl) (by unfold maxLen; simp))
      have HXX := Lib.hid (HX.out.below (((Below.refl _ w).alloc (Nat.le_refl _) (.cells #[.int .u8 (xs.length : Int)] 5)).mono hB))
      have HBB := Lib.hid ((Below.refl _ w).alloc (Nat.le_refl _) (.cells #[.int .u8 (xs.length : Int)] 5))
      have HSZ : Hid (w.heap.size ≤ (w.alloc (.cells #[.int .u8 (xs.length : Int)] 5)).heap.size) := Lib.hid (by simp)
      have HH : Hid (pushB xs = ([b8 (xs.length : Int)]) ++ xs) := Lib.hid (by rw [hp]; unfold headB; rw [if_pos c1])
      clear hp HX hbb
      go_enter Try.func19, Try.ntmps19
      go_wp2_with (at_builtin; refine wpList_append_bytes rfl (.tmp 60) (.tmp 61) 22 rfl w.heap.size 5 i0 slice_u8 hi hz0 hz1 hz2 _ 1 (([b8 (xs.length : Int)]).map bv) rfl HOWN.out B _ xs rfl HXX.out (by omega) (by have := HSZ.out; omega) ?_; intro v9 w9 hown9 hg9 hat9)
      go_ret
      have h9 := own_b hown9 (by simp)
      rw [← HH.out] at h9
      exact fresh_own h9 (HBB.out.grown hg9 (by have := HSZ.out; omega) (fun j hj => (World.ownsRow.lt HOWN.out j hj).1))
    by_cases c2 : xs.length ≤ 255
    · have hm : (xs.length : Int) % 256 = xs.length := by omega
      have d1 : decide ((xs.length : Int) ≤ 75) = false := decide_eq_false (by omega)
      have d2 : decide ((xs.length : Int) ≤ 255) = true := decide_eq_true (by omega)
      have hbb : bv (b8 (xs.length : Int)) = .int .u8 (xs.length : Int) := by rw [bv_b8, hm]
      clear hm
      have HOWN := Lib.hid (own_made w 5 [.int .u8 76, .int .u8 (xs.length : Int)] ([76, b8 (xs.length : Int)]) (by rw [List.map_cons, List.map_cons, hbb]; rfl) (by unfold maxLen; simp))
      have HXX := Lib.hid (HX.out.below (((Below.refl _ w).alloc (Nat.le_refl _) (.cells #[.int .u8 76, .int .u8 (xs.length : Int)] 5)).mono hB))
      have HBB := Lib.hid ((Below.refl _ w).alloc (Nat.le_refl _) (.cells #[.int .u8 76, .int .u8 (xs.length : Int)] 5))
      have HSZ : Hid (w.heap.size ≤ (w.alloc (.cells #[.int .u8 76, .int .u8 (xs.length : Int)] 5)).heap.size) := Lib.hid (by simp)
      have HH : Hid (pushB xs = ([76, b8 (xs.length : Int)]) ++ xs) := Lib.hid (by rw [hp]; unfold headB; rw [if_neg c1, if_pos c2])
      clear hp HX hbb
      go_enter Try.func19, Try.ntmps19
      go_wp2_with (at_builtin; refine wpList_append_bytes rfl (.tmp 60) (.tmp 61) 22 rfl w.heap.size 5 i0 slice_u8 hi hz0 hz1 hz2 _ 2 (([76, b8 (xs.length : Int)]).map bv) rfl HOWN.out B _ xs rfl HXX.out (by omega) (by have := HSZ.out; omega) ?_; intro v9 w9 hown9 hg9 hat9)
      go_ret
      have h9 := own_b hown9 (by simp)
      rw [← HH.out] at h9
      exact fresh_own h9 (HBB.out.grown hg9 (by have := HSZ.out; omega) (fun j hj => (World.ownsRow.lt HOWN.out j hj).1))
    by_cases c3 : xs.length ≤ 65535
    · have d1 : decide ((xs.length : Int) ≤ 75) = false := decide_eq_false (by omega)
      have d2 : decide ((xs.length : Int) ≤ 255) = false := decide_eq_false (by omega)
      have d3 : decide ((xs.length : Int) ≤ 65535) = true := decide_eq_true (by omega)
      have HH : Hid (pushB xs = ([77] ++ low (xs.length : Int) 2) ++ xs) := Lib.hid (by rw [hp]; unfold headB; rw [if_neg c1, if_neg c2, if_pos c3]; rfl)
      clear hp
      go_enter Try.func19, Try.ntmps19
      go_wp2_with fail
      refine (low_any (xs.length : Int) 2 _ (by omega) (by omega) (by omega)).mono ?_
      intro e w3 hfr
      obtain ⟨u3, rfl, hown3, hb3⟩ := fresh_v hfr
      obtain ⟨A3, c3, rfl⟩ := hown3.form
      have s3 := hb3.size
      rw [World.size_alloc] at s3
      have hown2 : w3.ownsRow w.heap.size 5 1 (.slice (some ⟨w.heap.size, 0, none⟩) 1 1) 1 (([77] : List UInt8).map bv) := own_turns (own_made w 5 [.int .u8 77] [77] rfl (by unfold maxLen; simp)) (Turns.of_below (S := fun _ => False) hb3) (fun _ _ h => h)
      have HW2 := Lib.hid hown2
      have HB3 := Lib.hid (((Below.refl _ w).alloc (Nat.le_refl _) _).trans (hb3.mono (by simp)))
      have HY3 := Lib.hid (Byt.of_own hown3)
      have HS3 := Lib.hid s3
      have HL3 := Lib.hid (low_length (xs.length : Int) 2)
      have HN9 : Hid (([77] ++ low (xs.length : Int) 2 : List UInt8).length + xs.length ≤ 140737488355328) := Lib.hid (by rw [List.length_append, HL3.out, List.length_cons, List.length_nil]; omega)
      clear hfr hown3 hb3 hown2 s3
      go_wp2_with (first | (at_builtin; refine wpList_append_bytes rfl (.tmp 55) (.tmp 58) 22 rfl w.heap.size 5 i0 slice_u8 hi hz0 hz1 hz2 _ 1 (([77] : List UInt8).map bv) rfl HW2.out _ _ (low (xs.length : Int) 2) rfl HY3.out (by have := HL3.out; omega) (by have := HS3.out; omega) ?_; intro v5 w5 hown5 hg5 hat5; have ho5 := own_b hown5 (by simp); have hT5 := ((Turns.refl (fun k => (Value.slice (some ⟨w.heap.size, 0, none⟩) 1 1).ownBlock = some k) w3).grown hg5 (fun k hk _ => hk)); have HOWN := Lib.hid ho5; have HBB := Lib.hid (HB3.out.trans (hT5.below_of (by have := HS3.out; omega) (fun i hi e => by simp [Value.ownBlock] at e; omega))); have HXX := Lib.hid (HX.out.below (HBB.out.mono hB)); have HSZ := Lib.hid HBB.out.size; clear hown5 hg5 hat5 ho5 hT5) | (at_builtin; refine wpList_append_bytes rfl (.tmp 60) (.tmp 61) 22 rfl w.heap.size 5 i0 slice_u8 hi hz0 hz1 hz2 _ _ _ rfl HOWN.out B _ xs rfl HXX.out HN9.out HSZ.out ?_; intro v9 w9 hown9 hg9 hat9))
      go_ret
      have h9 := own_b hown9 (by simp [low_length])
      rw [← HH.out] at h9
      exact fresh_own h9 (HBB.out.grown hg9 (by have := HSZ.out; omega) (fun j hj => (World.ownsRow.lt HOWN.out j hj).1))
    · have d1 : decide ((xs.length : Int) ≤ 75) = false := decide_eq_false (by omega)
      have d2 : decide ((xs.length : Int) ≤ 255) = false := decide_eq_false (by omega)
      have d3 : decide ((xs.length : Int) ≤ 65535) = false := decide_eq_false (by omega)
      have HH : Hid (pushB xs = ([78] ++ low (xs.length : Int) 4) ++ xs) := Lib.hid (by rw [hp]; unfold headB; rw [if_neg c1, if_neg c2, if_neg c3]; rfl)
      clear hp
      go_enter Try.func19, Try.ntmps19
      go_wp2_with fail
      refine (low_any (xs.length : Int) 4 _ (by omega) (by omega) (by omega)).mono ?_
      intro e w3 hfr
      obtain ⟨u3, rfl, hown3, hb3⟩ := fresh_v hfr
      obtain ⟨A3, c3, rfl⟩ := hown3.form
      have s3 := hb3.size
      rw [World.size_alloc] at s3
      have hown2 : w3.ownsRow w.heap.size 5 1 (.slice (some ⟨w.heap.size, 0, none⟩) 1 1) 1 (([78] : List UInt8).map bv) := own_turns (own_made w 5 [.int .u8 78] [78] rfl (by unfold maxLen; simp)) (Turns.of_below (S := fun _ => False) hb3) (fun _ _ h => h)
      have HW2 := Lib.hid hown2
      have HB3 := Lib.hid (((Below.refl _ w).alloc (Nat.le_refl _) _).trans (hb3.mono (by simp)))
      have HY3 := Lib.hid (Byt.of_own hown3)
      have HS3 := Lib.hid s3
      have HL3 := Lib.hid (low_length (xs.length : Int) 4)
      have HN9 : Hid (([78] ++ low (xs.length : Int) 4 : List UInt8).length + xs.length ≤ 140737488355328) := Lib.hid (by rw [List.length_append, HL3.out, List.length_cons, List.length_nil]; omega)
      clear hfr hown3 hb3 hown2 s3
      go_wp2_with (first | (at_builtin; refine wpList_append_bytes rfl (.tmp 35) (.tmp 38) 22 rfl w.heap.size 5 i0 slice_u8 hi hz0 hz1 hz2 _ 1 (([78] : List UInt8).map bv) rfl HW2.out _ _ (low (xs.length : Int) 4) rfl HY3.out (by have := HL3.out; omega) (by have := HS3.out; omega) ?_; intro v5 w5 hown5 hg5 hat5; have ho5 := own_b hown5 (by simp); have hT5 := ((Turns.refl (fun k => (Value.slice (some ⟨w.heap.size, 0, none⟩) 1 1).ownBlock = some k) w3).grown hg5 (fun k hk _ => hk)); have HOWN := Lib.hid ho5; have HBB := Lib.hid (HB3.out.trans (hT5.below_of (by have := HS3.out; omega) (fun i hi e => by simp [Value.ownBlock] at e; omega))); have HXX := Lib.hid (HX.out.below (HBB.out.mono hB)); have HSZ := Lib.hid HBB.out.size; clear hown5 hg5 hat5 ho5 hT5) | (at_builtin; refine wpList_append_bytes rfl (.tmp 60) (.tmp 61) 22 rfl w.heap.size 5 i0 slice_u8 hi hz0 hz1 hz2 _ _ _ rfl HOWN.out B _ xs rfl HXX.out HN9.out HSZ.out ?_; intro v9 w9 hown9 hg9 hat9))
      go_ret
      have h9 := own_b hown9 (by simp [low_length])
      rw [← HH.out] at h9
      exact fresh_own h9 (HBB.out.grown hg9 (by have := HSZ.out; omega) (fun j hj => (World.ownsRow.lt HOWN.out j hj).1))

set_option maxHeartbeats 1600000 in
theorem rpush_any (B : Nat) (x : Value) (xs : List UInt8) (w : World) (hx : Byt w B x xs) (hB : B ≤ w.heap.size) (hl : xs.length ≤ 47000000) :
    Calls Try.prog 19 #[x] w (Fresh w (pushB xs)) := by
  by_cases h : aloneB xs = none ∨ xs = []
  · exact rpush_head B x xs h w hx hB hl
  · match xs, h, hx with
    | [], h, _ => exact absurd (.inr rfl) h
    | _ :: _ :: _, h, _ => exact absurd (.inl rfl) h
    | [q], h, hx =>
      obtain ⟨A, c, rfl, _, _, _, h4⟩ := hx
      obtain ⟨b, o, rfl, hb, hc⟩ := h4 (by simp)
      have hcell : w.cell? ⟨b, o, none⟩ = some (.int .u8 (q.toNat : Int)) := hc 0 q rfl
      have hq := q.toNat_lt
      clear h4 hc
      rw [alone_one] at h
      by_cases h0 : q = 129
      · subst h0
        have d1 : decide ((1 : Int) ≤ ((129 : UInt8).toNat : Int)) = true := rfl
        have d2 : decide (((129 : UInt8).toNat : Int) ≤ 16) = false := rfl
        have d3 : (((129 : UInt8).toNat : Int) == 129) = true := rfl
        have hp : pushB [129] = [79] := by decide
        rw [hp]
        go_enter Try.func19, Try.ntmps19
        go_wp2_with fail
        go_ret
        exact fresh_made w [bv 79] [79] rfl (by unfold maxLen; simp)
      · rw [if_neg h0] at h
        by_cases h1 : 1 ≤ q.toNat ∧ q.toNat ≤ 16
        · have hp : pushB [q] = [UInt8.ofNat (80 + q.toNat)] := by unfold pushB; rw [alone_one, if_neg h0, if_pos h1]
          have hv : bv (UInt8.ofNat (80 + q.toNat)) = .int .u8 (80 + (q.toNat : Int)) := by unfold bv; rw [UInt8.toNat_ofNat', Nat.mod_eq_of_lt (by omega)]; rfl
          have d1 : decide ((1 : Int) ≤ (q.toNat : Int)) = true := decide_eq_true (by omega)
          have d1' : (1 : Int) ≤ (q.toNat : Int) := by omega
          have d2 : decide ((q.toNat : Int) ≤ 16) = true := decide_eq_true (by omega)
          have d2' : (q.toNat : Int) ≤ 16 := by omega
          have HV := Lib.hid hv
          rw [hp]
          clear h0 h hv hp
          go_enter Try.func19, Try.ntmps19
          go_wp2_with fail
          go_ret
          exact fresh_made w [.int .u8 (80 + (q.toNat : Int))] [UInt8.ofNat (80 + q.toNat)] (by rw [List.map_cons, HV.out]; rfl) (by unfold maxLen; simp)
        · rw [if_neg h1] at h
          exact absurd (.inl rfl) h
end Go.Proofs.Ytpfobbhoahnebaa
