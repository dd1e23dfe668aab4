/-
  Texts joined: SnCoded, SnPush, SnAwk. Conditions: those of each.
-/
import Derived.Test.YtocblkacdoahfaaGreatDoorJ8
/-
  script.coded: are these the codes of all operations? Conditions: sizes within the reach.
-/
namespace Go.Proofs.YtocblkacdoahfaaGreatDoor.Sn
open Go.RowKit

set_option maxRecDepth 100000 in
set_option maxHeartbeats 400000 in
theorem coded1_any (c q : UInt8) (u : Value) (w : World) :
    Calls Tryz.prog 70 #[.agg #[.int .u8 (c.toNat : Int), u], .int .u8 (q.toNat : Int)] w fun e w' => e = .returned (.bool (c == q)) ∧ Below w.heap.size w w' := by
  have hb : ((c.toNat : Int) == (q.toNat : Int)) = (c == q) := by
    rw [Bool.eq_iff_iff]
    simp only [beq_iff_eq]
    exact ⟨fun h => u8_ext (by omega), fun h => by subst h; rfl⟩
  have HB := Lib.hid hb
  clear hb
  go_enter Tryz.func70, Tryz.ntmps70
  go_wp2_with fail
  go_ret
  exact ⟨by rw [← HB.out]; rfl, (Below.refl _ _).alloc (Nat.le_refl _) _⟩

theorem codes_take {L : List Piece} {cs : List UInt8} {k : Nat} (h1 : k < L.length) (h2 : k < cs.length) (he : (L.take k).map Piece.code = cs.take k) (hk : L[k].code = cs[k]) : (L.take (k + 1)).map Piece.code = cs.take (k + 1) := by
  rw [List.take_succ_eq_append_getElem h1, List.take_succ_eq_append_getElem h2, List.map_append, he]
  simp [hk]
theorem codes_ne {L : List Piece} {cs : List UInt8} {k : Nat} (h1 : k < L.length) (h2 : k < cs.length) (hk : (L[k].code == cs[k]) = false) : L.map Piece.code ≠ cs := by
  intro e
  have : (L.map Piece.code)[k]'(by simp; exact h1) = cs[k] := by simp only [e]
  rw [List.getElem_map] at this
  rw [this] at hk
  simp at hk

set_option maxRecDepth 100000 in
set_option maxHeartbeats 1600000 in
theorem equal_op (B B' : Nat) (x y : Value) (L : List Piece) (cs : List UInt8) (w : World) (hx : OpsR w B x L) (hy : Byt w B' y cs) (hB : B ≤ w.heap.size) (hB' : B' ≤ w.heap.size) :
    Calls Tryz.prog 69 #[x, y, .func (.func 70) #[] #[]] w fun e w' => e = .returned (.bool (decide (L.map Piece.code = cs))) ∧ Below w.heap.size w w' := by
  have hlen := hx.len
  have hlen2 := hy.len
  unfold maxLen at hlen2
  obtain ⟨A, c, rfl⟩ := hx.form
  obtain ⟨A2, c2, rfl⟩ := hy.form
  have hcap := hx.cap
  have hcap2 := hy.cap
  have HX := Lib.hid hx
  have HY := Lib.hid hy
  clear hx hy
  obtain ⟨R, hR⟩ : ∃ R, R = decide (L.map Piece.code = cs) := ⟨_, rfl⟩
  rw [← hR]
  have HR := Lib.hid hR
  clear hR
  by_cases hne : L.length = cs.length
  · have hnei : ((L.length : Int) != (cs.length : Int)) = false := by simp [hne]
    go_enter Tryz.func69, Tryz.ntmps69
    have HNE := Lib.hid hne
    clear hne
    go_wp2_with fail
    clear hnei
    go_loopw [17] (fun s wr => ∃ k : Nat, k ≤ L.length ∧ s = .int .i64 (k : Int) ∧ Hid ((L.take k).map Piece.code = cs.take k) ∧ Hid (Below w.heap.size w wr)) (fun s _ => L.length - (intOf s).toNat)
    case atStart => exact ⟨0, Nat.zero_le _, rfl, Lib.hid (by simp), Lib.hid (Below.refl _ _)⟩
    case round =>
      obtain ⟨k, hk, rfl, hno, hbel⟩ := hrel
      by_cases hlt : k < L.length
      · obtain ⟨A', c', e0, _, _, h4⟩ := HX.out
        obtain ⟨e1, e2, e3⟩ := Value.slice.inj e0
        subst e1 e3
        clear e2
        obtain ⟨b, o, rfl, hb, hc⟩ := h4 (by rintro rfl; simp at hlt)
        have hlt2 : k < cs.length := by have := HNE.out; omega
        obtain ⟨A', c', e0', _, _, _, h5⟩ := HY.out
        obtain ⟨e1, e2, e3⟩ := Value.slice.inj e0'
        subst e1 e3
        clear e2
        obtain ⟨b2, o2, rfl, hb2, hc2⟩ := h5 (by rintro rfl; simp at hlt2)
        obtain ⟨hc0, hc1, A9, c9, hd9⟩ := hc k _ (List.getElem?_eq_getElem hlt)
        have hc3 := hc2 k _ (List.getElem?_eq_getElem hlt2)
        have hs := Lib.hid (fun (h : L[k].code = cs[k]) => codes_take hlt hlt2 hno.out h)
        have hn := Lib.hid (fun (h : (L[k].code == cs[k]) = false) => codes_ne hlt hlt2 h)
        obtain ⟨⟨q, d, zs⟩, hq⟩ : ∃ q, q = L[k] := ⟨_, rfl⟩
        obtain ⟨z, hz⟩ : ∃ z, z = cs[k] := ⟨_, rfl⟩
        rw [← hq] at hc0 hc1 hs hn hd9
        rw [← hz] at hc3 hs hn
        dsimp only at hc0 hc1 hs hn hd9
        subst hd9
        have hb' : b < w.heap.size := by omega
        have hb2' : b2 < w.heap.size := by omega
        have hr0 : wr.cell? ⟨b, o + k * 2, none⟩ = some (.int .u8 (q.toNat : Int)) := (hbel.out.cell (p := ⟨b, _, none⟩) hb').trans hc0
        have hr1 : wr.cell? ⟨b, o + k * 2 + 1, none⟩ = some (.slice A9 zs.length c9) := (hbel.out.cell (p := ⟨b, _, none⟩) hb').trans hc1
        have hr3 : ∀ o3, (wr.alloc o3).cell? ⟨b2, o2 + k, none⟩ = some (.int .u8 (z.toNat : Int)) := fun o3 => ((hbel.out.alloc hbel.out.size o3).cell (p := ⟨b2, _, none⟩) hb2').trans hc3
        clear hc h4 h5 hc2 hq hz e0 e0' hc0 hc1 hc3
        have hd : decide (k < L.length) = true := by simpa using hlt
        have HT := Lib.hid (fun W => coded1_any q z (.slice A9 zs.length c9) W)
        by_cases hq0 : (q == z) = true
        · have hqz : q = z := by simpa using hq0
          rw [hq0] at HT
          clear hq0
          have hnx := Lib.hid (hs.out hqz)
          clear hqz hs hn
          go_wp2_with fail
          refine (HT.out _).mono ?_
          rintro e w1 ⟨rfl, hb1⟩
          go_wp2_with fail
          go_roundw
          case rel => exact ⟨k + 1, by omega, by go_num, hnx, Lib.hid ((hbel.out.alloc hbel.out.size _).trans (hb1.mono (by have := hbel.out.size; simp; omega)))⟩
          case measure => simp [intOf]; omega
        · have hq1 : (q == z) = false := by simpa using hq0
          rw [hq1] at HT
          have hnx := Lib.hid (hn.out hq1)
          clear hq0 hq1 hs hn
          go_wp2_with fail
          refine (HT.out _).mono ?_
          rintro e w1 ⟨rfl, hb1⟩
          go_wp2_with fail
          go_ret
          exact ⟨by rw [HR.out, decide_eq_false hnx.out]; rfl, (hbel.out.alloc hbel.out.size _).trans (hb1.mono (by have := hbel.out.size; simp; omega))⟩
      · obtain rfl : k = L.length := by omega
        go_wp2_with fail
        go_ret
        have h := hno.out
        rw [List.take_length, HNE.out, List.take_length] at h
        exact ⟨by rw [HR.out, decide_eq_true h]; rfl, hbel.out⟩
  · have hnei : ((L.length : Int) != (cs.length : Int)) = true := by simp only [bne_iff_ne, ne_eq]; omega
    have hnx : R = false := by
      rw [HR.out]
      exact decide_eq_false fun e => hne (by rw [← e, List.length_map])
    subst hnx
    clear hne HR
    go_enter Tryz.func69, Tryz.ntmps69
    go_wp2_with fail
    go_ret
    exact ⟨rfl, Below.refl _ _⟩

set_option maxRecDepth 100000 in
set_option maxHeartbeats 800000 in
theorem coded_any (B B' : Nat) (x y : Value) (L : List Piece) (cs : List UInt8) (w : World) (hx : OpsR w B x L) (hy : Byt w B' y cs) (hB : B ≤ w.heap.size) (hB' : B' ≤ w.heap.size) :
    Calls Tryz.prog 36 #[x, y] w fun e w' => e = .returned (.bool (decide (L.map Piece.code = cs))) ∧ Below w.heap.size w w' := by
  have H := Lib.hid (equal_op B B' x y L cs w hx hy hB hB')
  obtain ⟨A, c, rfl⟩ := hx.form
  obtain ⟨A2, c2, rfl⟩ := hy.form
  clear hx hy
  obtain ⟨R, hR⟩ : ∃ R, R = decide (L.map Piece.code = cs) := ⟨_, rfl⟩
  rw [← hR] at H ⊢
  clear hR
  go_enter Tryz.func36, Tryz.ntmps36
  go_wp2_with fail
  refine H.out.mono ?_
  rintro e w1 ⟨rfl, hb⟩
  go_wp2_with fail
  go_ret
  exact ⟨rfl, hb⟩
end Go.Proofs.YtocblkacdoahfaaGreatDoor.Sn

/-
  script.small, alone, Push; bytes.Clone. Conditions: sizes within the reach.
-/
namespace Go.Proofs.YtocblkacdoahfaaGreatDoor.Sn
open Go.RowKit

/-- The number from 0 to 16 that a code pushes on its own; -1: none. -/
def smallB (c : UInt8) : Int := if c = 0 then 0 else if 81 ≤ c.toNat ∧ c.toNat ≤ 96 then (c.toNat : Int) - 80 else -1

set_option maxRecDepth 100000 in
set_option maxHeartbeats 400000 in
theorem small_any (c : UInt8) (w : World) : Calls Tryz.prog 62 #[.int .u8 (c.toNat : Int)] w fun e w' => e = .returned (.int .i64 (smallB c)) ∧ w = w' := by
  have hc := c.toNat_lt
  by_cases h0 : c = 0
  · subst h0
    go_enter Tryz.func62, Tryz.ntmps62
    go_wp2_with fail
    go_ret
    exact ⟨rfl, rfl⟩
  · have hb0 : ((c.toNat : Int) == 0) = false := by
      have : c.toNat ≠ 0 := fun e => h0 (u8_ext e)
      simp only [beq_eq_false_iff_ne, ne_eq]; omega
    by_cases h1 : 81 ≤ c.toNat
    · have d1 : decide ((81 : Int) ≤ (c.toNat : Int)) = true := decide_eq_true (by omega)
      have d1' : (81 : Int) ≤ (c.toNat : Int) := by omega
      by_cases h2 : c.toNat ≤ 96
      · have hs : smallB c = (c.toNat : Int) - 80 := by unfold smallB; rw [if_neg h0, if_pos ⟨h1, h2⟩]
        have d2 : decide ((c.toNat : Int) ≤ 96) = true := decide_eq_true (by omega)
        have HS := Lib.hid hs
        clear hs h0
        go_enter Tryz.func62, Tryz.ntmps62
        go_wp2_with fail
        go_ret
        exact ⟨by rw [HS.out]; exact congrArg (fun z => Ending.returned (.int .i64 z)) (by omega), rfl⟩
      · have hs : smallB c = -1 := by unfold smallB; rw [if_neg h0, if_neg (by omega)]
        have d2 : decide ((c.toNat : Int) ≤ 96) = false := decide_eq_false (by omega)
        have HS := Lib.hid hs
        clear hs h0
        go_enter Tryz.func62, Tryz.ntmps62
        go_wp2_with fail
        go_ret
        exact ⟨by rw [HS.out]; rfl, rfl⟩
    · have hs : smallB c = -1 := by unfold smallB; rw [if_neg h0, if_neg (by omega)]
      have d1 : decide ((81 : Int) ≤ (c.toNat : Int)) = false := decide_eq_false (by omega)
      have HS := Lib.hid hs
      clear hs h0
      go_enter Tryz.func62, Tryz.ntmps62
      go_wp2_with fail
      go_ret
      exact ⟨by rw [HS.out]; rfl, rfl⟩

/-- The code that pushes these bytes with none behind it. -/
def aloneB (xs : List UInt8) : Option UInt8 :=
  match xs with
  | [] => some 0
  | [c] => if c = 129 then some 79 else if 1 ≤ c.toNat ∧ c.toNat ≤ 16 then some (UInt8.ofNat (80 + c.toNat)) else none
  | _ => none
theorem alone_one (q : UInt8) : aloneB [q] = if q = 129 then some 79 else if 1 ≤ q.toNat ∧ q.toNat ≤ 16 then some (UInt8.ofNat (80 + q.toNat)) else none := rfl
def AloneV (xs : List UInt8) : Value := match aloneB xs with | some c => .tuple #[.int .u8 (c.toNat : Int), .bool true] | none => .tuple #[.int .u8 0, .bool false]

set_option maxRecDepth 100000 in
set_option maxHeartbeats 1600000 in
theorem alone_any (B : Nat) (x : Value) (xs : List UInt8) (w : World) (hx : Byt w B x xs) : Calls Tryz.prog 17 #[x] w fun e w' => e = .returned (AloneV xs) ∧ w = w' := by
  have hlen := hx.len
  unfold maxLen at hlen
  match xs, hx with
  | [], hx =>
    obtain ⟨A, c, rfl⟩ := hx.form
    clear hx
    go_enter Tryz.func17, Tryz.ntmps17
    go_wp2_with fail
    go_ret2
    exact ⟨rfl, rfl⟩
  | [q], hx =>
    obtain ⟨A, c, rfl, _, _, _, h4⟩ := hx
    obtain ⟨b, o, rfl, hb, hc⟩ := h4 (by simp)
    have hcell : w.cell? ⟨b, o, none⟩ = some (.int .u8 (q.toNat : Int)) := hc 0 q rfl
    have hq := q.toNat_lt
    clear h4 hc
    by_cases h0 : q = 129
    · subst h0
      have hb0 : (((129 : UInt8).toNat : Int) == 129) = true := rfl
      go_enter Tryz.func17, Tryz.ntmps17
      go_wp2_with fail
      go_ret2
      exact ⟨rfl, rfl⟩
    · have hb0 : ((q.toNat : Int) == 129) = false := by
        have : q.toNat ≠ 129 := fun e => h0 (u8_ext e)
        simp only [beq_eq_false_iff_ne, ne_eq]; omega
      by_cases h1 : 1 ≤ q.toNat
      · have d1 : decide ((1 : Int) ≤ (q.toNat : Int)) = true := decide_eq_true (by omega)
        have d1' : (1 : Int) ≤ (q.toNat : Int) := by omega
        by_cases h2 : q.toNat ≤ 16
        · have hs : AloneV [q] = .tuple #[.int .u8 (80 + (q.toNat : Int)), .bool true] := by
            unfold AloneV
            rw [alone_one, if_neg h0, if_pos ⟨h1, h2⟩]
            show Value.tuple #[.int .u8 ((UInt8.ofNat (80 + q.toNat)).toNat : Int), .bool true] = _
            rw [UInt8.toNat_ofNat', Nat.mod_eq_of_lt (by omega)]
            rfl
          have d2 : decide ((q.toNat : Int) ≤ 16) = true := decide_eq_true (by omega)
          have HS := Lib.hid hs
          clear hs h0
          go_enter Tryz.func17, Tryz.ntmps17
          go_wp2_with fail
          go_ret2
          exact ⟨by rw [HS.out]; rfl, rfl⟩
        · have hs : AloneV [q] = .tuple #[.int .u8 0, .bool false] := by
            unfold AloneV
            rw [alone_one, if_neg h0, if_neg (by omega)]
          have d2 : decide ((q.toNat : Int) ≤ 16) = false := decide_eq_false (by omega)
          have HS := Lib.hid hs
          clear hs h0
          go_enter Tryz.func17, Tryz.ntmps17
          go_wp2_with fail
          go_ret2
          exact ⟨by rw [HS.out]; rfl, rfl⟩
      · have hs : AloneV [q] = .tuple #[.int .u8 0, .bool false] := by
          unfold AloneV
          rw [alone_one, if_neg h0, if_neg (by omega)]
        have d1 : decide ((1 : Int) ≤ (q.toNat : Int)) = false := decide_eq_false (by omega)
        have HS := Lib.hid hs
        clear hs h0
        go_enter Tryz.func17, Tryz.ntmps17
        go_wp2_with fail
        go_ret2
        exact ⟨by rw [HS.out]; rfl, rfl⟩
  | q :: q2 :: ys, hx =>
    obtain ⟨A, c, rfl⟩ := hx.form
    clear hx
    have h0 : (((q :: q2 :: ys).length : Int) == 0) = false := by simp only [List.length_cons, beq_eq_false_iff_ne, ne_eq]; omega
    have h1 : (1 : Int) < ((q :: q2 :: ys).length : Int) := by simp only [List.length_cons]; omega
    have d1 : decide ((1 : Int) < ((q :: q2 :: ys).length : Int)) = true := decide_eq_true h1
    have hs : AloneV (q :: q2 :: ys) = .tuple #[.int .u8 0, .bool false] := rfl
    obtain ⟨n, hn⟩ : ∃ n, n = (q :: q2 :: ys).length := ⟨_, rfl⟩
    rw [hs]
    rw [← hn] at h0 h1 d1 hlen ⊢
    clear hn hs
    go_enter Tryz.func17, Tryz.ntmps17
    go_wp2_with fail
    go_ret2
    exact ⟨rfl, rfl⟩

/-- The head of a push, and the push. -/
def headB (n : Nat) : List UInt8 := if n < 76 then [b8 (n : Int)] else if n ≤ 255 then [76, b8 (n : Int)] else if n ≤ 65535 then 77 :: low (n : Int) 2 else 78 :: low (n : Int) 4
def pushB (xs : List UInt8) : List UInt8 := match aloneB xs with | some c => [c] | none => headB xs.length ++ xs


theorem fresh_v {w w' : World} {xs : List UInt8} {e : Ending} (h : Fresh w xs e w') : ∃ v, e = .returned v ∧ OwnB w' w.heap.size v xs ∧ Below w.heap.size w w' := by
  obtain ⟨A, c, he, ho, hb⟩ := h
  exact ⟨_, he, ho, hb⟩
theorem fresh_made (w : World) (l : List Value) (ys : List UInt8) (h : l = ys.map bv) (hl : ys.length ≤ maxLen) :
    Fresh w ys (.returned (.slice (some ⟨w.heap.size, 0, none⟩) ys.length ys.length)) (w.alloc (.cells l.toArray 5)) :=
  ⟨_, _, rfl, own_made w _ l ys h hl, (Below.refl _ _).alloc (Nat.le_refl _) _⟩

set_option maxRecDepth 100000 in
set_option maxHeartbeats 800000 in
theorem push_alone (B : Nat) (x : Value) (xs : List UInt8) (c : UInt8) (h : aloneB xs = some c) (w : World) (hx : Byt w B x xs) :
    Calls Tryz.prog 4 #[x] w (Fresh w (pushB xs)) := by
  have hp : pushB xs = [c] := by unfold pushB; rw [h]
  have ha := alone_any B x xs w hx
  have hv : AloneV xs = .tuple #[.int .u8 (c.toNat : Int), .bool true] := by unfold AloneV; rw [h]
  rw [hv] at ha
  rw [hp]
  have HA := Lib.hid ha
  obtain ⟨A, c2, rfl⟩ := hx.form
  clear hx ha hv hp h
  go_enter Tryz.func4, Tryz.ntmps4
  go_wp2_with fail
  refine HA.out.mono ?_
  rintro e w1 ⟨rfl, rfl⟩
  go_wp2_with fail
  go_ret
  exact fresh_made w [bv c] [c] rfl (by unfold maxLen; simp)

/-- Behind the head: the writer holds it; the bytes and the end follow. -/
theorem wr_new (w : World) : Wr (w.alloc (.cells #[.slice none 0 0] 50)) w.heap.size (w.heap.size + 1) (.slice none 0 0) [] := ⟨heap_alloc_new w _, World.ownsRow_nil _ _ _ _⟩

set_option maxRecDepth 100000 in
set_option maxHeartbeats 3200000 in
theorem push_head (B : Nat) (x : Value) (xs : List UInt8) (h : aloneB xs = none) (w : World) (hx : Byt w B x xs) (hB : B ≤ w.heap.size) (hl : xs.length ≤ 47000000) :
    Calls Tryz.prog 4 #[x] w (Fresh w (pushB xs)) := by
  have hp : pushB xs = headB xs.length ++ xs := by unfold pushB; rw [h]
  have ha := alone_any B x xs w hx
  have hv : AloneV xs = .tuple #[.int .u8 0, .bool false] := by unfold AloneV; rw [h]
  rw [hv] at ha
  rw [hp]
  have HA := Lib.hid ha
  have HX := Lib.hid hx
  obtain ⟨A, c2, rfl⟩ := hx.form
  have hw := Lib.hid (wr_new w)
  have e1 : w.heap.size + 1 ≤ (w.alloc (.cells #[.slice none 0 0] 50)).heap.size := by simp
  have E1 := Lib.hid e1
  clear hx ha hv hp h e1
  have last : ∀ (hd : List UInt8) (w2 : World), hd.length ≤ 9 → WrStep (w.alloc (.cells #[.slice none 0 0] 50)) w.heap.size (w.heap.size + 1) (.slice none 0 0) hd w2 →
      ∃ v2, Byt w2 B (.slice A xs.length c2) xs ∧ Wr w2 w.heap.size (w.heap.size + 1) v2 hd ∧ w.heap.size + 1 ≤ w2.heap.size ∧ Below w.heap.size w w2 := fun hd w2 _ ⟨v2, h1, h2, _⟩ => by
    have ht : Turns (fun k => k = w.heap.size) w w2 := ((Turns.refl (fun _ => False) w).alloc _).mono (fun _ _ h => h.elim) |>.trans h2 (fun i hi hs => by rcases hs with hs | hs; exact hs; simp [Value.ownBlock] at hs)
    have hb : Below w.heap.size w w2 := ht.below_of (Nat.le_refl _) (fun i hi e => by omega)
    exact ⟨v2, HX.out.below (hb.mono hB), h1, by have := h2.size; simp at this; omega, hb⟩
  have LAST := Lib.hid last
  clear last
  have fin : ∀ (w3 w4 : World) (hd : List UInt8) (v2 : Value), Below w.heap.size w w3 → Wr w3 w.heap.size (w.heap.size + 1) v2 hd → WrStep w3 w.heap.size (w.heap.size + 1) v2 (hd ++ xs) w4 → w.heap.size + 1 ≤ w3.heap.size →
      (∃ v4, Wr w4 w.heap.size (w.heap.size + 1) v4 (hd ++ xs)) ∧ Below w.heap.size w w4 := fun w3 w4 hd v2 hb hwr ⟨v4, h1, h2, _⟩ hs => by
    refine ⟨⟨v4, h1⟩, hb.trans (h2.below_of (by omega) (fun i hi e => ?_))⟩
    rcases e with e | e
    · omega
    · have := (World.ownsRow.lt hwr.2 i e).1; omega
  have FIN := Lib.hid fin
  clear fin
  by_cases c1 : xs.length < 76
  · have hh : headB xs.length = [b8 (xs.length : Int)] := by unfold headB; rw [if_pos c1]
    rw [hh]
    clear hh
    go_enter Tryz.func4, Tryz.ntmps4
    go_wp2_with fail
    refine HA.out.mono ?_
    rintro e w1 ⟨rfl, rfl⟩
    go_wp2_with fail
    refine (u8_any w.heap.size (w.heap.size + 1) _ _ [] _ (by omega) (by omega) hw.out (by simp) E1.out).mono ?_
    rintro e w2 ⟨rfl, hs⟩
    obtain ⟨v2, hx2, hw2, hz2, hb2⟩ := LAST.out [b8 (xs.length : Int)] w2 (by simp) hs
    clear hs
    have HX2 := Lib.hid hx2
    have HW2 := Lib.hid hw2
    clear hx2 hw2
    go_wp2_with fail
    refine (raw_any w.heap.size (w.heap.size + 1) B v2 _ _ xs w2 HW2.out HX2.out (by simp; omega) hz2).mono ?_
    rintro e w3 ⟨rfl, hs⟩
    obtain ⟨⟨v4, hw4⟩, hb4⟩ := FIN.out w2 w3 _ v2 hb2 HW2.out hs hz2
    clear hs
    go_wp2_with fail
    refine (out_any w.heap.size (w.heap.size + 1) v4 _ w3 hw4 (by simp; omega)).mono ?_
    intro e w5 hfr
    obtain ⟨u5, rfl, hown5, hb5⟩ := fresh_v hfr
    go_wp2_with fail
    go_ret
    exact fresh_of (own_base hown5 hb4.size) (hb4.trans (hb5.mono hb4.size))
  by_cases c2 : xs.length ≤ 255
  · have hh : headB xs.length = [b8 76] ++ [b8 (xs.length : Int)] := by unfold headB; rw [if_neg c1, if_pos c2]; rfl
    rw [hh]
    clear hh
    go_enter Tryz.func4, Tryz.ntmps4
    go_wp2_with fail
    refine HA.out.mono ?_
    rintro e w1 ⟨rfl, rfl⟩
    go_wp2_with fail
    refine (u8_any w.heap.size (w.heap.size + 1) _ 76 [] _ (by omega) (by omega) hw.out (by simp) E1.out).mono ?_
    rintro e w2 ⟨rfl, hs⟩
    obtain ⟨v2, _, hw2, hz2, hb2⟩ := LAST.out [b8 76] w2 (by simp) hs
    have hs1 := Lib.hid hs
    have HW2 := Lib.hid hw2
    clear hw2 hs
    go_wp2_with fail
    refine (u8_any w.heap.size (w.heap.size + 1) v2 _ [b8 76] w2 (by omega) (by omega) HW2.out (by simp) hz2).mono ?_
    rintro e w3 ⟨rfl, hs⟩
    have hs3 : WrStep (w.alloc (.cells #[.slice none 0 0] 50)) w.heap.size (w.heap.size + 1) (.slice none 0 0) ([b8 76] ++ [b8 (xs.length : Int)]) w3 := by
      obtain ⟨v9, k1, k2, k3⟩ := hs
      obtain ⟨v8, j1, j2, j3⟩ := hs1.out
      refine ⟨v9, k1, ((Turns.refl (fun _ => False) _).mono (fun _ _ h => h.elim) |>.trans j2 (fun _ _ h => h)).trans k2 (fun i hi e => ?_), ?_⟩
      · rcases e with e | e
        · exact .inl e
        · have := (World.ownsRow.lt HW2.out.2 i e).1
          simp at hi
          omega
      · rcases k3 with k3 | ⟨k, hk, hkk⟩
        · rw [k3]
          cases hv : v2.ownBlock with
          | none => exact .inl rfl
          | some g => exact .inr ⟨g, rfl, by have := (World.ownsRow.lt HW2.out.2 g hv).1; simp; omega⟩
        · exact .inr ⟨k, hk, by simp; omega⟩
    obtain ⟨v3, hx3, hw3, hz3, hb3⟩ := LAST.out _ w3 (by simp) hs3
    clear hs hs3
    have HX3 := Lib.hid hx3
    have HW3 := Lib.hid hw3
    clear hx3 hw3
    go_wp2_with fail
    refine (raw_any w.heap.size (w.heap.size + 1) B v3 _ _ xs w3 HW3.out HX3.out (by simp; omega) hz3).mono ?_
    rintro e w4 ⟨rfl, hs⟩
    obtain ⟨⟨v4, hw4⟩, hb4⟩ := FIN.out w3 w4 _ v3 hb3 HW3.out hs hz3
    clear hs
    go_wp2_with fail
    refine (out_any w.heap.size (w.heap.size + 1) v4 _ w4 hw4 (by simp; omega)).mono ?_
    intro e w5 hfr
    obtain ⟨u5, rfl, hown5, hb5⟩ := fresh_v hfr
    go_wp2_with fail
    go_ret
    exact fresh_of (own_base hown5 hb4.size) (hb4.trans (hb5.mono hb4.size))
  by_cases c3 : xs.length ≤ 65535
  · have hh : headB xs.length = [b8 77] ++ low (xs.length : Int) 2 := by unfold headB; rw [if_neg c1, if_neg c2, if_pos c3]; rfl
    rw [hh]
    clear hh
    go_enter Tryz.func4, Tryz.ntmps4
    go_wp2_with fail
    refine HA.out.mono ?_
    rintro e w1 ⟨rfl, rfl⟩
    go_wp2_with fail
    refine (u8_any w.heap.size (w.heap.size + 1) _ 77 [] _ (by omega) (by omega) hw.out (by simp) E1.out).mono ?_
    rintro e w2 ⟨rfl, hs⟩
    obtain ⟨v2, _, hw2, hz2, hb2⟩ := LAST.out [b8 77] w2 (by simp) hs
    have hs1 := Lib.hid hs
    have HW2 := Lib.hid hw2
    clear hw2 hs
    go_wp2_with fail
    refine (u16_any w.heap.size (w.heap.size + 1) v2 _ [b8 77] w2 (by omega) (by omega) HW2.out (by simp) hz2).mono ?_
    rintro e w3 ⟨rfl, hs⟩
    have hs3 : WrStep (w.alloc (.cells #[.slice none 0 0] 50)) w.heap.size (w.heap.size + 1) (.slice none 0 0) ([b8 77] ++ low (xs.length : Int) 2) w3 := by
      obtain ⟨v9, k1, k2, k3⟩ := hs
      obtain ⟨v8, j1, j2, j3⟩ := hs1.out
      refine ⟨v9, k1, ((Turns.refl (fun _ => False) _).mono (fun _ _ h => h.elim) |>.trans j2 (fun _ _ h => h)).trans k2 (fun i hi e => ?_), ?_⟩
      · rcases e with e | e
        · exact .inl e
        · have := (World.ownsRow.lt HW2.out.2 i e).1
          simp at hi
          omega
      · rcases k3 with k3 | ⟨k, hk, hkk⟩
        · rw [k3]
          cases hv : v2.ownBlock with
          | none => exact .inl rfl
          | some g => exact .inr ⟨g, rfl, by have := (World.ownsRow.lt HW2.out.2 g hv).1; simp; omega⟩
        · exact .inr ⟨k, hk, by simp; omega⟩
    obtain ⟨v3, hx3, hw3, hz3, hb3⟩ := LAST.out _ w3 (by simp [low_length]) hs3
    clear hs hs3
    have HX3 := Lib.hid hx3
    have HW3 := Lib.hid hw3
    clear hx3 hw3
    go_wp2_with fail
    refine (raw_any w.heap.size (w.heap.size + 1) B v3 _ _ xs w3 HW3.out HX3.out (by simp [low_length]; omega) hz3).mono ?_
    rintro e w4 ⟨rfl, hs⟩
    obtain ⟨⟨v4, hw4⟩, hb4⟩ := FIN.out w3 w4 _ v3 hb3 HW3.out hs hz3
    clear hs
    go_wp2_with fail
    refine (out_any w.heap.size (w.heap.size + 1) v4 _ w4 hw4 (by simp [low_length]; omega)).mono ?_
    intro e w5 hfr
    obtain ⟨u5, rfl, hown5, hb5⟩ := fresh_v hfr
    go_wp2_with fail
    go_ret
    exact fresh_of (own_base hown5 hb4.size) (hb4.trans (hb5.mono hb4.size))
  · have hh : headB xs.length = [b8 78] ++ low (xs.length : Int) 4 := by unfold headB; rw [if_neg c1, if_neg c2, if_neg c3]; rfl
    rw [hh]
    clear hh
    go_enter Tryz.func4, Tryz.ntmps4
    go_wp2_with fail
    refine HA.out.mono ?_
    rintro e w1 ⟨rfl, rfl⟩
    go_wp2_with fail
    refine (u8_any w.heap.size (w.heap.size + 1) _ 78 [] _ (by omega) (by omega) hw.out (by simp) E1.out).mono ?_
    rintro e w2 ⟨rfl, hs⟩
    obtain ⟨v2, _, hw2, hz2, hb2⟩ := LAST.out [b8 78] w2 (by simp) hs
    have hs1 := Lib.hid hs
    have HW2 := Lib.hid hw2
    clear hw2 hs
    go_wp2_with fail
    refine (u32_any w.heap.size (w.heap.size + 1) v2 _ [b8 78] w2 (by omega) (by omega) HW2.out (by simp) hz2).mono ?_
    rintro e w3 ⟨rfl, hs⟩
    have hs3 : WrStep (w.alloc (.cells #[.slice none 0 0] 50)) w.heap.size (w.heap.size + 1) (.slice none 0 0) ([b8 78] ++ low (xs.length : Int) 4) w3 := by
      obtain ⟨v9, k1, k2, k3⟩ := hs
      obtain ⟨v8, j1, j2, j3⟩ := hs1.out
      refine ⟨v9, k1, ((Turns.refl (fun _ => False) _).mono (fun _ _ h => h.elim) |>.trans j2 (fun _ _ h => h)).trans k2 (fun i hi e => ?_), ?_⟩
      · rcases e with e | e
        · exact .inl e
        · have := (World.ownsRow.lt HW2.out.2 i e).1
          simp at hi
          omega
      · rcases k3 with k3 | ⟨k, hk, hkk⟩
        · rw [k3]
          cases hv : v2.ownBlock with
          | none => exact .inl rfl
          | some g => exact .inr ⟨g, rfl, by have := (World.ownsRow.lt HW2.out.2 g hv).1; simp; omega⟩
        · exact .inr ⟨k, hk, by simp; omega⟩
    obtain ⟨v3, hx3, hw3, hz3, hb3⟩ := LAST.out _ w3 (by simp [low_length]) hs3
    clear hs hs3
    have HX3 := Lib.hid hx3
    have HW3 := Lib.hid hw3
    clear hx3 hw3
    go_wp2_with fail
    refine (raw_any w.heap.size (w.heap.size + 1) B v3 _ _ xs w3 HW3.out HX3.out (by simp [low_length]; omega) hz3).mono ?_
    rintro e w4 ⟨rfl, hs⟩
    obtain ⟨⟨v4, hw4⟩, hb4⟩ := FIN.out w3 w4 _ v3 hb3 HW3.out hs hz3
    clear hs
    go_wp2_with fail
    refine (out_any w.heap.size (w.heap.size + 1) v4 _ w4 hw4 (by simp [low_length]; omega)).mono ?_
    intro e w5 hfr
    obtain ⟨u5, rfl, hown5, hb5⟩ := fresh_v hfr
    go_wp2_with fail
    go_ret
    exact fresh_of (own_base hown5 hb4.size) (hb4.trans (hb5.mono hb4.size))

theorem push_any (B : Nat) (x : Value) (xs : List UInt8) (w : World) (hx : Byt w B x xs) (hB : B ≤ w.heap.size) (hl : xs.length ≤ 47000000) :
    Calls Tryz.prog 4 #[x] w (Fresh w (pushB xs)) := by
  cases h : aloneB xs with
  | none => exact push_head B x xs h w hx hB hl
  | some c => exact push_alone B x xs c h w hx
end Go.Proofs.YtocblkacdoahfaaGreatDoor.Sn

/-
  The fixed fact of layer 11. Conditions: none.
-/
namespace Go.Proofs.YtocblkacdoahfaaGreatDoor.Sn
open Go.RowKit

set_option maxRecDepth 100000 in
set_option maxHeartbeats 400000 in
theorem bclone_any (B : Nat) (x : Value) (xs : List UInt8) (w : World) (hr : Byt w B x xs) (hlen : xs.length ≤ 140737488355328) :
    Calls Tryz.prog 40 #[x] w (Fresh w xs) := by
  obtain ⟨i0, hi, hz0, hz1, hz2⟩ := info_parts info_u8
  obtain ⟨A, c, hx⟩ := hr.form
  subst hx
  rcases A with _ | ad
  · have hnil : xs = [] := by
      obtain ⟨A', c', e, _, _, hA, _⟩ := hr
      exact (hA (Value.slice.inj e).1.symm).1
    subst hnil
    have hq := Lib.run_eql_slice_nil (P := Tryz.prog) w 23 5 none 0 c 0 0 slice_u8
    go_enter Tryz.func40, Tryz.ntmps40
    go_wp2
    go_ret
    exact fresh_of (World.ownsRow_nil _ _ _ _) (Below.refl _ _)
  · have hq := Lib.run_eql_slice_nil (P := Tryz.prog) w 23 5 (some ad) xs.length c 0 0 slice_u8
    have hr1 : Byt (w.alloc (.cells #[] 5)) B (.slice (some ad) xs.length c) xs := by
      obtain ⟨A', c', e, h1, h2, h3, h4⟩ := hr
      refine ⟨A', c', e, h1, h2, h3, fun hne => ?_⟩
      obtain ⟨b, o, e1, hb, hc⟩ := h4 hne
      exact ⟨b, o, e1, hb, fun j u hu => cell_later (Below.alloc (Below.refl _ _) (Nat.le_refl _) _) (hc j u hu)⟩
    have hown : (w.alloc (.cells #[] 5)).ownsRow w.heap.size 5 1 (.slice (some ⟨w.heap.size, 0, none⟩) 0 0) 0 [] :=
      World.ownsRow_made w #[] 0 (Nat.le_refl _) (by unfold maxLen; omega) rfl
    go_enter Tryz.func40, Tryz.ntmps40
    go_wp2_with (at_builtin; refine wpList_append_bytes rfl (.tmp 5) (.tmp 6) 23 rfl w.heap.size 5 i0 slice_u8 hi hz0 hz1 hz2 _ 0 [] rfl hown B _ xs rfl hr1 (by omega) (by simp) ?_; intro v1 w1 hown1 hg1 hat1; obtain ⟨A1, c1, rfl⟩ := own_form hown1)
    go_ret
    rw [Nat.zero_add] at *
    exact fresh_of hown1 ((Below.alloc (Below.refl _ _) (Nat.le_refl _) _).grown hg1 (by simp) (fun k hk => by cases hk; exact Nat.le_refl _))


theorem prog_short (B : Nat) (x : Value) (xs : List UInt8) (w : World) (hx : Byt w B x xs) (hl : xs.length < 4) :
    Calls Tryz.prog 33 #[x] w fun e w' => e = .returned (.tuple #[.int .i64 0, .slice none 0 0, .bool false]) ∧ w = w' := by
  obtain ⟨A, c, rfl⟩ := hx.form
  clear hx
  have hd : decide ((xs.length : Int) < 4) = true := decide_eq_true (by omega)
  go_enter Tryz.func33, Tryz.ntmps33
  go_wp2_with fail
  go_ret3
  exact ⟨rfl, rfl⟩

theorem multi_few (A : Option Addr) (n c : Nat) (w : World) (hn : n < 4) :
    Calls Tryz.prog 37 #[.slice A n c] w fun e w' => e = .returned (.bool false) ∧ w = w' := by
  have hd : decide ((n : Int) - 3 < 1) = true := decide_eq_true (by omega)
  go_enter Tryz.func37, Tryz.ntmps37
  go_wp2_with fail
  go_ret
  exact ⟨rfl, rfl⟩

theorem parse_fixed : parseP [106, 1, 2] = some [(106, []), (1, [2])] := by
  rw [parseP_ok (by decide), show (opR 106 [1, 2]).2.2 = [1, 2] by decide, parseP_ok (by decide), show (opR 1 [2]).2.2 = [] by decide, parseP_nil]
  decide
theorem parse_fixed2 : parseP [1, 2] = some [(1, [2])] := by
  rw [parseP_ok (by decide), show (opR 1 [2]).2.2 = [] by decide, parseP_nil]
  decide

def KindSix (w : World) (e : Ending) (w' : World) : Prop := ∃ A c, e = .returned (.tuple #[.int .i64 6, .slice A 1 c]) ∧ Below w.heap.size w w'

set_option maxRecDepth 100000 in
set_option maxHeartbeats 3200000 in
theorem kind_fixed (B g : Nat) (w : World) (hx : Byt w B (.slice (some ⟨g, 0, none⟩) 3 3) [106, 1, 2]) (hB : B ≤ w.heap.size) :
    Calls Tryz.prog 11 #[.slice (some ⟨g, 0, none⟩) 3 3] w (KindSix w) := by
  have hP := Lib.hid (prog_short B _ [106, 1, 2] w hx (by simp))
  have hR := parse_any B _ [106, 1, 2] w hx (by simp)
  unfold Parsed at hR
  rw [parse_fixed] at hR
  dsimp only at hR
  have HR := Lib.hid hR
  obtain ⟨A', c', e0, _, _, _, h4⟩ := hx
  obtain ⟨b, o, e1, hb, hc⟩ := h4 (by simp)
  obtain ⟨e2, _, _⟩ := Value.slice.inj e0
  rw [e1] at e2
  obtain ⟨rfl, rfl, _⟩ := Addr.mk.inj (Option.some.inj e2)
  have hc0 : w.cell? ⟨g, 0, none⟩ = some (.int .u8 106) := hc 0 106 rfl
  have htl : Byt w B (.slice (some ⟨g, 1, none⟩) 2 2) [1, 2] := ⟨_, _, rfl, Nat.le_refl _, by unfold maxLen; simp, (by intro h; cases h), fun _ => ⟨g, 1, rfl, hb, fun j u hu => by
    have := hc (j + 1) u (by simpa using hu)
    rw [Nat.zero_add] at this
    rw [Nat.add_comm 1 j]
    exact this⟩⟩
  have HT := Lib.hid htl
  clear hR hc h4 e0 e1 e2 htl
  have hgw : g < w.heap.size := by omega
  go_enter Tryz.func11, Tryz.ntmps11
  go_wp2_with fail
  refine hP.out.mono ?_
  rintro e w1 ⟨rfl, rfl⟩
  go_wp2_with fail
  refine HR.out.mono ?_
  rintro e w1 ⟨A1, c1, L, rfl, hL, hops, hb1⟩
  have hll : L.length = 2 := by have := congrArg List.length hL; simpa using this
  have hcodes : L.map Piece.code = [106, 1] := by
    have h := congrArg (List.map Prod.fst) hL
    rw [List.map_map] at h
    exact h
  have OR := Lib.hid (OpsR.of_at hops)
  have HC := Lib.hid hcodes
  clear hL hcodes hops HR
  rw [show ([(106, []), (1, [2])] : List (UInt8 × List UInt8)).length = 2 from rfl] at OR ⊢
  have s1 := hb1.size
  have HB1 := Lib.hid hb1
  clear hb1
  go_wp2_with fail
  refine (coded_any w1.heap.size (w1.heap.size + 1) _ _ L [118, 169, 20, 136, 172] _ (OR.out.below ((Below.refl _ w1).alloc (Nat.le_refl _) _)) (Byt.made w1 _ _ [118, 169, 20, 136, 172] rfl (by unfold maxLen; simp)) (by simp) (by simp)).mono ?_
  rw [HC.out]
  rintro e w2 ⟨rfl, hb2⟩
  have s2 := hb2.size
  have HB2 := Lib.hid (((Below.refl _ w1).alloc (Nat.le_refl _) _).trans (hb2.mono (by simp)))
  clear hb2
  rw [World.size_alloc] at s2
  go_wp2_with fail
  refine (coded_any w1.heap.size (w2.heap.size + 1) _ _ L [169, 20, 135] _ ((OR.out.below HB2.out).below ((Below.refl _ w2).alloc (by omega) _)) (Byt.made w2 _ _ [169, 20, 135] rfl (by unfold maxLen; simp)) (by simp; omega) (by simp)).mono ?_
  rw [HC.out]
  rintro e w3 ⟨rfl, hb3⟩
  have s3 := hb3.size
  rw [World.size_alloc] at s3
  have HB3 := Lib.hid (((HB1.out.trans (HB2.out.mono s1)).alloc (by omega) _).trans (hb3.mono (by simp; omega)))
  clear hb3 HC OR hll
  go_wp2_with fail
  refine (multi_few A1 2 c1 _ (by omega)).mono ?_
  rintro e w4 ⟨rfl, rfl⟩
  have hc3 : w3.cell? ⟨g, 0, none⟩ = some (.int .u8 106) := (HB3.out.cell (p := ⟨g, 0, none⟩) hgw).trans hc0
  clear hc0
  have hPu := pushes_any B _ [1, 2] w3 (HT.out.below (HB3.out.mono hB)) (by simp)
  have hpb : pushesB [1, 2] = true := by unfold pushesB; rw [parse_fixed2]; rfl
  rw [hpb] at hPu
  have HPu := Lib.hid hPu
  clear hPu hpb
  go_wp2_with fail
  refine HPu.out.mono ?_
  rintro e w5 ⟨rfl, hb5⟩
  have HB5 := Lib.hid (HB3.out.trans (hb5.mono (by omega)))
  clear hb5
  go_wp2_with fail
  refine (bclone_any B _ [1, 2] w5 (HT.out.below (HB5.out.mono hB)) (by simp)).mono ?_
  intro e w6 hfr
  obtain ⟨u6, rfl, hown6, hb6⟩ := fresh_v hfr
  obtain ⟨A6, c6, rfl⟩ := hown6.form
  clear hfr
  go_wp2_with fail
  go_ret2
  exact ⟨_, _, rfl, (HB5.out.trans (hb6.mono HB5.out.size)).alloc (by have := HB5.out.size; have := hb6.size; omega) _⟩

theorem push_five : pushB [5] = [85] := by decide
theorem byt_lit (w : World) (l : List Value) (ys : List UInt8) (h : l = ys.map bv) (hl : ys.length ≤ 100) :
    Byt (w.alloc (.cells l.toArray 5)) (w.heap.size + 1) (.slice (some ⟨w.heap.size, 0, none⟩) ys.length ys.length) ys := Byt.made w _ l ys h (by unfold maxLen; omega)

end Go.Proofs.YtocblkacdoahfaaGreatDoor.Sn
