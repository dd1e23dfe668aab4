/-
  script.small, alone, Push; bytes.Clone. Conditions: sizes within the reach.
-/
import Derived.Test.YtadgaeokiolmmaaSnCoded
namespace Go.Proofs.Ytadgaeokiolmmaa
open Go.RowKit

/-- The number from 0 to 16 that a code pushes on its own; -1: none. -/
def smallB (c : UInt8) : Int := if c = 0 then 0 else if 81 ≤ c.toNat ∧ c.toNat ≤ 96 then (c.toNat : Int) - 80 else -1

set_option maxHeartbeats 400000 in
theorem small_any (c : UInt8) (w : World) : Calls Try.prog 69 #[.int .u8 (c.toNat : Int)] w fun e w' => e = .returned (.int .i64 (smallB c)) ∧ w = w' := by
  have hc := c.toNat_lt
  by_cases h0 : c = 0
  · subst h0
    go_enter Try.func69, Try.ntmps69
    go_wp2_with fail
    go_ret
    exact ⟨rfl, rfl⟩
  · have hb0 : ((c.toNat : Int) == 0) = false := by
      have : c.toNat ≠ 0 := fun e => h0 (u8_ext e)
      simp only [beq_eq_false_iff_ne, ne_eq]; omega
    by_cases h1 : 81 ≤ c.toNat
    · have d1 : decide ((81 : Int) ≤ (c.toNat : Int)) = true := decide_eq_true (by omega)
      have d1' : (81 : Int) ≤ (c.toNat : Int) := by omega
      by_cases h2 : c.toNat ≤ 96
      · have hs : smallB c = (c.toNat : Int) - 80 := by unfold smallB; rw [if_neg h0, if_pos ⟨h1, h2⟩]
        have d2 : decide ((c.toNat : Int) ≤ 96) = true := decide_eq_true (by omega)
        have HS := Lib.hid hs
        clear hs h0
        go_enter Try.func69, Try.ntmps69
        go_wp2_with fail
        go_ret
        exact ⟨by rw [HS.out]; exact congrArg (fun z => Ending.returned (.int .i64 z)) (by omega), rfl⟩
      · have hs : smallB c = -1 := by unfold smallB; rw [if_neg h0, if_neg (by omega)]
        have d2 : decide ((c.toNat : Int) ≤ 96) = false := decide_eq_false (by omega)
        have HS := Lib.hid hs
        clear hs h0
        go_enter Try.func69, Try.ntmps69
        go_wp2_with fail
        go_ret
        exact ⟨by rw [HS.out]; rfl, rfl⟩
    · have hs : smallB c = -1 := by unfold smallB; rw [if_neg h0, if_neg (by omega)]
      have d1 : decide ((81 : Int) ≤ (c.toNat : Int)) = false := decide_eq_false (by omega)
      have HS := Lib.hid hs
      clear hs h0
      go_enter Try.func69, Try.ntmps69
      go_wp2_with fail
      go_ret
      exact ⟨by rw [HS.out]; rfl, rfl⟩

/-- The code that pushes these bytes with none behind it. -/
def aloneB (xs : List UInt8) : Option UInt8 :=
  match xs with
  | [] => some 0
  | [c] => if c = 129 then some 79 else if 1 ≤ c.toNat ∧ c.toNat ≤ 16 then some (UInt8.ofNat (80 + c.toNat)) else none
  | _ => none
theorem alone_one (q : UInt8) : aloneB [q] = if q = 129 then some 79 else if 1 ≤ q.toNat ∧ q.toNat ≤ 16 then some (UInt8.ofNat (80 + q.toNat)) else none := rfl
def AloneV (xs : List UInt8) : Value := match aloneB xs with | some c => .tuple #[.int .u8 (c.toNat : Int), .bool true] | none => .tuple #[.int .u8 0, .bool false]

set_option maxHeartbeats 1600000 in
theorem alone_any (B : Nat) (x : Value) (xs : List UInt8) (w : World) (hx : Byt w B x xs) : Calls Try.prog 50 #[x] w fun e w' => e = .returned (AloneV xs) ∧ w = w' := by
  have hlen := hx.len
  unfold maxLen at hlen
  match xs, hx with
  | [], hx =>
    obtain ⟨A, c, rfl⟩ := hx.form
    clear hx
    go_enter Try.func50, Try.ntmps50
    go_wp2_with fail
    go_ret2
    exact ⟨rfl, rfl⟩
  | [q], hx =>
    obtain ⟨A, c, rfl, _, _, _, h4⟩ := hx
    obtain ⟨b, o, rfl, hb, hc⟩ := h4 (by simp)
    have hcell : w.cell? ⟨b, o, none⟩ = some (.int .u8 (q.toNat : Int)) := hc 0 q rfl
    have hq := q.toNat_lt
    clear h4 hc
    by_cases h0 : q = 129
    · subst h0
      have hb0 : (((129 : UInt8).toNat : Int) == 129) = true := rfl
      go_enter Try.func50, Try.ntmps50
      go_wp2_with fail
      go_ret2
      exact ⟨rfl, rfl⟩
    · have hb0 : ((q.toNat : Int) == 129) = false := by
        have : q.toNat ≠ 129 := fun e => h0 (u8_ext e)
        simp only [beq_eq_false_iff_ne, ne_eq]; omega
      by_cases h1 : 1 ≤ q.toNat
      · have d1 : decide ((1 : Int) ≤ (q.toNat : Int)) = true := decide_eq_true (by omega)
        have d1' : (1 : Int) ≤ (q.toNat : Int) := by omega
        by_cases h2 : q.toNat ≤ 16
        · have hs : AloneV [q] = .tuple #[.int .u8 (80 + (q.toNat : Int)), .bool true] := by
            unfold AloneV
            rw [alone_one, if_neg h0, if_pos ⟨h1, h2⟩]
            show Value.tuple #[.int .u8 ((UInt8.ofNat (80 + q.toNat)).toNat : Int), .bool true] = _
            rw [UInt8.toNat_ofNat', Nat.mod_eq_of_lt (by omega)]
            rfl
          have d2 : decide ((q.toNat : Int) ≤ 16) = true := decide_eq_true (by omega)
          have HS := Lib.hid hs
          clear hs h0
          go_enter Try.func50, Try.ntmps50
          go_wp2_with fail
          go_ret2
          exact ⟨by rw [HS.out]; rfl, rfl⟩
        · have hs : AloneV [q] = .tuple #[.int .u8 0, .bool false] := by
            unfold AloneV
            rw [alone_one, if_neg h0, if_neg (by omega)]
          have d2 : decide ((q.toNat : Int) ≤ 16) = false := decide_eq_false (by omega)
          have HS := Lib.hid hs
          clear hs h0
          go_enter Try.func50, Try.ntmps50
          go_wp2_with fail
          go_ret2
          exact ⟨by rw [HS.out]; rfl, rfl⟩
      · have hs : AloneV [q] = .tuple #[.int .u8 0, .bool false] := by
          unfold AloneV
          rw [alone_one, if_neg h0, if_neg (by omega)]
        have d1 : decide ((1 : Int) ≤ (q.toNat : Int)) = false := decide_eq_false (by omega)
        have HS := Lib.hid hs
        clear hs h0
        go_enter Try.func50, Try.ntmps50
        go_wp2_with fail
        go_ret2
        exact ⟨by rw [HS.out]; rfl, rfl⟩
  | q :: q2 :: ys, hx =>
    obtain ⟨A, c, rfl⟩ := hx.form
    clear hx
    have h0 : (((q :: q2 :: ys).length : Int) == 0) = false := by simp only [List.length_cons, beq_eq_false_iff_ne, ne_eq]; omega
    have h1 : (1 : Int) < ((q :: q2 :: ys).length : Int) := by simp only [List.length_cons]; omega
    have d1 : decide ((1 : Int) < ((q :: q2 :: ys).length : Int)) = true := decide_eq_true h1
    have hs : AloneV (q :: q2 :: ys) = .tuple #[.int .u8 0, .bool false] := rfl
    obtain ⟨n, hn⟩ : ∃ n, n = (q :: q2 :: ys).length := ⟨_, rfl⟩
    rw [hs]
    rw [← hn] at h0 h1 d1 hlen ⊢
    clear hn hs
    go_enter Try.func50, Try.ntmps50
    go_wp2_with fail
    go_ret2
    exact ⟨rfl, rfl⟩

/-- The head of a push, and the push. -/
def headB (n : Nat) : List UInt8 := if n < 76 then [b8 (n : Int)] else if n ≤ 255 then [76, b8 (n : Int)] else if n ≤ 65535 then 77 :: low (n : Int) 2 else 78 :: low (n : Int) 4
def pushB (xs : List UInt8) : List UInt8 := match aloneB xs with | some c => [c] | none => headB xs.length ++ xs


theorem fresh_v {w w' : World} {xs : List UInt8} {e : Ending} (h : Fresh w xs e w') : ∃ v, e = .returned v ∧ OwnB w' w.heap.size v xs ∧ Below w.heap.size w w' := by
  obtain ⟨A, c, he, ho, hb⟩ := h
  exact ⟨_, he, ho, hb⟩
theorem fresh_made (w : World) (l : List Value) (ys : List UInt8) (h : l = ys.map bv) (hl : ys.length ≤ maxLen) :
    Fresh w ys (.returned (.slice (some ⟨w.heap.size, 0, none⟩) ys.length ys.length)) (w.alloc (.cells l.toArray 5)) :=
  ⟨_, _, rfl, own_made w _ l ys h hl, (Below.refl _ _).alloc (Nat.le_refl _) _⟩

set_option maxHeartbeats 800000 in
theorem push_alone (B : Nat) (x : Value) (xs : List UInt8) (c : UInt8) (h : aloneB xs = some c) (w : World) (hx : Byt w B x xs) :
    Calls Try.prog 18 #[x] w (Fresh w (pushB xs)) := by
  have hp : pushB xs = [c] := by unfold pushB; rw [h]
  have ha := alone_any B x xs w hx
  have hv : AloneV xs = .tuple #[.int .u8 (c.toNat : Int), .bool true] := by unfold AloneV; rw [h]
  rw [hv] at ha
  rw [hp]
  have HA := Lib.hid ha
  obtain ⟨A, c2, rfl⟩ := hx.form
  clear hx ha hv hp h
  go_enter Try.func18, Try.ntmps18
  go_wp2_with fail
  refine HA.out.mono ?_
  rintro e w1 ⟨rfl, rfl⟩
  go_wp2_with fail
  go_ret
  exact fresh_made w [bv c] [c] rfl (by unfold maxLen; simp)

/-- Behind the head: the writer holds it; the bytes and the end follow. -/
theorem wr_new (w : World) : Wr (w.alloc (.cells #[.slice none 0 0] 79)) w.heap.size (w.heap.size + 1) (.slice none 0 0) [] := ⟨heap_alloc_new w _, World.ownsRow_nil _ _ _ _⟩

set_option maxRecDepth 100000 in
set_option maxHeartbeats 3200000 in
theorem push_head (B : Nat) (x : Value) (xs : List UInt8) (h : aloneB xs = none) (w : World) (hx : Byt w B x xs) (hB : B ≤ w.heap.size) (hl : xs.length ≤ 47000000) :
    Calls Try.prog 18 #[x] w (Fresh w (pushB xs)) := by
  have hp : pushB xs = headB xs.length ++ xs := by unfold pushB; rw [h]
  have ha := alone_any B x xs w hx
  have hv : AloneV xs = .tuple #[.int .u8 0, .bool false] := by unfold AloneV; rw [h]
  rw [hv] at ha
  rw [hp]
  have HA := Lib.hid ha
  have HX := Lib.hid hx
  obtain ⟨A, c2, rfl⟩ := hx.form
  have hw := Lib.hid (wr_new w)
  have e1 : w.heap.size + 1 ≤ (w.alloc (.cells #[.slice none 0 0] 79)).heap.size := by simp
  have E1 := Lib.hid e1
  clear hx ha hv hp h e1
  have last : ∀ (hd : List UInt8) (w2 : World), hd.length ≤ 9 → WrStep (w.alloc (.cells #[.slice none 0 0] 79)) w.heap.size (w.heap.size + 1) (.slice none 0 0) hd w2 →
      ∃ v2, Byt w2 B (.slice A xs.length c2) xs ∧ Wr w2 w.heap.size (w.heap.size + 1) v2 hd ∧ w.heap.size + 1 ≤ w2.heap.size ∧ Below w.heap.size w w2 := fun hd w2 _ ⟨v2, h1, h2, _⟩ => by
    have ht : Turns (fun k => k = w.heap.size) w w2 := ((Turns.refl (fun _ => False) w).alloc _).mono (fun _ _ h => h.elim) |>.trans h2 (fun i hi hs => by rcases hs with hs | hs; exact hs; simp [Value.ownBlock] at hs)
    have hb : Below w.heap.size w w2 := ht.below_of (Nat.le_refl _) (fun i hi e => by omega)
    exact ⟨v2, HX.out.below (hb.mono hB), h1, by have := h2.size; simp at this; omega, hb⟩
  have LAST := Lib.hid last
  clear last
  have fin : ∀ (w3 w4 : World) (hd : List UInt8) (v2 : Value), Below w.heap.size w w3 → Wr w3 w.heap.size (w.heap.size + 1) v2 hd → WrStep w3 w.heap.size (w.heap.size + 1) v2 (hd ++ xs) w4 → w.heap.size + 1 ≤ w3.heap.size →
      (∃ v4, Wr w4 w.heap.size (w.heap.size + 1) v4 (hd ++ xs)) ∧ Below w.heap.size w w4 := fun w3 w4 hd v2 hb hwr ⟨v4, h1, h2, _⟩ hs => by
    refine ⟨⟨v4, h1⟩, hb.trans (h2.below_of (by omega) (fun i hi e => ?_))⟩
    rcases e with e | e
    · omega
    · have := (World.ownsRow.lt hwr.2 i e).1; omega
  have FIN := Lib.hid fin
  clear fin
  by_cases c1 : xs.length < 76
  · have hh : headB xs.length = [b8 (xs.length : Int)] := by unfold headB; rw [if_pos c1]
    rw [hh]
    clear hh
    go_enter Try.func18, Try.ntmps18
    go_wp2_with fail
    refine HA.out.mono ?_
    rintro e w1 ⟨rfl, rfl⟩
    go_wp2_with fail
    refine (u8_any w.heap.size (w.heap.size + 1) _ _ [] _ (by omega) (by omega) hw.out (by simp) E1.out).mono ?_
    rintro e w2 ⟨rfl, hs⟩
    obtain ⟨v2, hx2, hw2, hz2, hb2⟩ := LAST.out [b8 (xs.length : Int)] w2 (by simp) hs
    clear hs
    have HX2 := Lib.hid hx2
    have HW2 := Lib.hid hw2
    clear hx2 hw2
    go_wp2_with fail
    refine (raw_any w.heap.size (w.heap.size + 1) B v2 _ _ xs w2 HW2.out HX2.out (by simp; omega) hz2).mono ?_
    rintro e w3 ⟨rfl, hs⟩
    obtain ⟨⟨v4, hw4⟩, hb4⟩ := FIN.out w2 w3 _ v2 hb2 HW2.out hs hz2
    clear hs
    go_wp2_with fail
    refine (out_any w.heap.size (w.heap.size + 1) v4 _ w3 hw4 (by simp; omega)).mono ?_
    intro e w5 hfr
    obtain ⟨u5, rfl, hown5, hb5⟩ := fresh_v hfr
    go_wp2_with fail
    go_ret
    exact fresh_of (own_base hown5 hb4.size) (hb4.trans (hb5.mono hb4.size))
  by_cases c2 : xs.length ≤ 255
  · have hh : headB xs.length = [b8 76] ++ [b8 (xs.length : Int)] := by unfold headB; rw [if_neg c1, if_pos c2]; rfl
    rw [hh]
    clear hh
    go_enter Try.func18, Try.ntmps18
    go_wp2_with fail
    refine HA.out.mono ?_
    rintro e w1 ⟨rfl, rfl⟩
    go_wp2_with fail
    refine (u8_any w.heap.size (w.heap.size + 1) _ 76 [] _ (by omega) (by omega) hw.out (by simp) E1.out).mono ?_
    rintro e w2 ⟨rfl, hs⟩
    obtain ⟨v2, _, hw2, hz2, hb2⟩ := LAST.out [b8 76] w2 (by simp) hs
    have hs1 := Lib.hid hs
    have HW2 := Lib.hid hw2
    clear hw2 hs
    go_wp2_with fail
    refine (u8_any w.heap.size (w.heap.size + 1) v2 _ [b8 76] w2 (by omega) (by omega) HW2.out (by simp) hz2).mono ?_
    rintro e w3 ⟨rfl, hs⟩
    have hs3 : WrStep (w.alloc (.cells #[.slice none 0 0] 79)) w.heap.size (w.heap.size + 1) (.slice none 0 0) ([b8 76] ++ [b8 (xs.length : Int)]) w3 := by
      obtain ⟨v9, k1, k2, k3⟩ := hs
      obtain ⟨v8, j1, j2, j3⟩ := hs1.out
      refine ⟨v9, k1, ((Turns.refl (fun _ => False) _).mono (fun _ _ h => h.elim) |>.trans j2 (fun _ _ h => h)).trans k2 (fun i hi e => ?_), ?_⟩
      · rcases e with e | e
        · exact .inl e
        · have := (World.ownsRow.lt HW2.out.2 i e).1
          simp at hi
          omega
      · rcases k3 with k3 | ⟨k, hk, hkk⟩
        · rw [k3]
          cases hv : v2.ownBlock with
          | none => exact .inl rfl
          | some g => exact .inr ⟨g, rfl, by have := (World.ownsRow.lt HW2.out.2 g hv).1; simp; omega⟩
        · exact .inr ⟨k, hk, by simp; omega⟩
    obtain ⟨v3, hx3, hw3, hz3, hb3⟩ := LAST.out _ w3 (by simp) hs3
    clear hs hs3
    have HX3 := Lib.hid hx3
    have HW3 := Lib.hid hw3
    clear hx3 hw3
    go_wp2_with fail
    refine (raw_any w.heap.size (w.heap.size + 1) B v3 _ _ xs w3 HW3.out HX3.out (by simp; omega) hz3).mono ?_
    rintro e w4 ⟨rfl, hs⟩
    obtain ⟨⟨v4, hw4⟩, hb4⟩ := FIN.out w3 w4 _ v3 hb3 HW3.out hs hz3
    clear hs
    go_wp2_with fail
    refine (out_any w.heap.size (w.heap.size + 1) v4 _ w4 hw4 (by simp; omega)).mono ?_
    intro e w5 hfr
    obtain ⟨u5, rfl, hown5, hb5⟩ := fresh_v hfr
    go_wp2_with fail
    go_ret
    exact fresh_of (own_base hown5 hb4.size) (hb4.trans (hb5.mono hb4.size))
  by_cases c3 : xs.length ≤ 65535
  · have hh : headB xs.length = [b8 77] ++ low (xs.length : Int) 2 := by unfold headB; rw [if_neg c1, if_neg c2, if_pos c3]; rfl
    rw [hh]
    clear hh
    go_enter Try.func18, Try.ntmps18
    go_wp2_with fail
    refine HA.out.mono ?_
    rintro e w1 ⟨rfl, rfl⟩
    go_wp2_with fail
    refine (u8_any w.heap.size (w.heap.size + 1) _ 77 [] _ (by omega) (by omega) hw.out (by simp) E1.out).mono ?_
    rintro e w2 ⟨rfl, hs⟩
    obtain ⟨v2, _, hw2, hz2, hb2⟩ := LAST.out [b8 77] w2 (by simp) hs
    have hs1 := Lib.hid hs
    have HW2 := Lib.hid hw2
    clear hw2 hs
    go_wp2_with fail
    refine (u16_any w.heap.size (w.heap.size + 1) v2 _ [b8 77] w2 (by omega) (by omega) HW2.out (by simp) hz2).mono ?_
    rintro e w3 ⟨rfl, hs⟩
    have hs3 : WrStep (w.alloc (.cells #[.slice none 0 0] 79)) w.heap.size (w.heap.size + 1) (.slice none 0 0) ([b8 77] ++ low (xs.length : Int) 2) w3 := by
      obtain ⟨v9, k1, k2, k3⟩ := hs
      obtain ⟨v8, j1, j2, j3⟩ := hs1.out
      refine ⟨v9, k1, ((Turns.refl (fun _ => False) _).mono (fun _ _ h => h.elim) |>.trans j2 (fun _ _ h => h)).trans k2 (fun i hi e => ?_), ?_⟩
      · rcases e with e | e
        · exact .inl e
        · have := (World.ownsRow.lt HW2.out.2 i e).1
          simp at hi
          omega
      · rcases k3 with k3 | ⟨k, hk, hkk⟩
        · rw [k3]
          cases hv : v2.ownBlock with
          | none => exact .inl rfl
          | some g => exact .inr ⟨g, rfl, by have := (World.ownsRow.lt HW2.out.2 g hv).1; simp; omega⟩
        · exact .inr ⟨k, hk, by simp; omega⟩
    obtain ⟨v3, hx3, hw3, hz3, hb3⟩ := LAST.out _ w3 (by simp [low_length]) hs3
    clear hs hs3
    have HX3 := Lib.hid hx3
    have HW3 := Lib.hid hw3
    clear hx3 hw3
    go_wp2_with fail
    refine (raw_any w.heap.size (w.heap.size + 1) B v3 _ _ xs w3 HW3.out HX3.out (by simp [low_length]; omega) hz3).mono ?_
    rintro e w4 ⟨rfl, hs⟩
    obtain ⟨⟨v4, hw4⟩, hb4⟩ := FIN.out w3 w4 _ v3 hb3 HW3.out hs hz3
    clear hs
    go_wp2_with fail
    refine (out_any w.heap.size (w.heap.size + 1) v4 _ w4 hw4 (by simp [low_length]; omega)).mono ?_
    intro e w5 hfr
    obtain ⟨u5, rfl, hown5, hb5⟩ := fresh_v hfr
    go_wp2_with fail
    go_ret
    exact fresh_of (own_base hown5 hb4.size) (hb4.trans (hb5.mono hb4.size))
  · have hh : headB xs.length = [b8 78] ++ low (xs.length : Int) 4 := by unfold headB; rw [if_neg c1, if_neg c2, if_neg c3]; rfl
    rw [hh]
    clear hh
    go_enter Try.func18, Try.ntmps18
    go_wp2_with fail
    refine HA.out.mono ?_
    rintro e w1 ⟨rfl, rfl⟩
    go_wp2_with fail
    refine (u8_any w.heap.size (w.heap.size + 1) _ 78 [] _ (by omega) (by omega) hw.out (by simp) E1.out).mono ?_
    rintro e w2 ⟨rfl, hs⟩
    obtain ⟨v2, _, hw2, hz2, hb2⟩ := LAST.out [b8 78] w2 (by simp) hs
    have hs1 := Lib.hid hs
    have HW2 := Lib.hid hw2
    clear hw2 hs
    go_wp2_with fail
    refine (u32_any w.heap.size (w.heap.size + 1) v2 _ [b8 78] w2 (by omega) (by omega) HW2.out (by simp) hz2).mono ?_
    rintro e w3 ⟨rfl, hs⟩
    have hs3 : WrStep (w.alloc (.cells #[.slice none 0 0] 79)) w.heap.size (w.heap.size + 1) (.slice none 0 0) ([b8 78] ++ low (xs.length : Int) 4) w3 := by
      obtain ⟨v9, k1, k2, k3⟩ := hs
      obtain ⟨v8, j1, j2, j3⟩ := hs1.out
      refine ⟨v9, k1, ((Turns.refl (fun _ => False) _).mono (fun _ _ h => h.elim) |>.trans j2 (fun _ _ h => h)).trans k2 (fun i hi e => ?_), ?_⟩
      · rcases e with e | e
        · exact .inl e
        · have := (World.ownsRow.lt HW2.out.2 i e).1
          simp at hi
          omega
      · rcases k3 with k3 | ⟨k, hk, hkk⟩
        · rw [k3]
          cases hv : v2.ownBlock with
          | none => exact .inl rfl
          | some g => exact .inr ⟨g, rfl, by have := (World.ownsRow.lt HW2.out.2 g hv).1; simp; omega⟩
        · exact .inr ⟨k, hk, by simp; omega⟩
    obtain ⟨v3, hx3, hw3, hz3, hb3⟩ := LAST.out _ w3 (by simp [low_length]) hs3
    clear hs hs3
    have HX3 := Lib.hid hx3
    have HW3 := Lib.hid hw3
    clear hx3 hw3
    go_wp2_with fail
    refine (raw_any w.heap.size (w.heap.size + 1) B v3 _ _ xs w3 HW3.out HX3.out (by simp [low_length]; omega) hz3).mono ?_
    rintro e w4 ⟨rfl, hs⟩
    obtain ⟨⟨v4, hw4⟩, hb4⟩ := FIN.out w3 w4 _ v3 hb3 HW3.out hs hz3
    clear hs
    go_wp2_with fail
    refine (out_any w.heap.size (w.heap.size + 1) v4 _ w4 hw4 (by simp [low_length]; omega)).mono ?_
    intro e w5 hfr
    obtain ⟨u5, rfl, hown5, hb5⟩ := fresh_v hfr
    go_wp2_with fail
    go_ret
    exact fresh_of (own_base hown5 hb4.size) (hb4.trans (hb5.mono hb4.size))

theorem push_any (B : Nat) (x : Value) (xs : List UInt8) (w : World) (hx : Byt w B x xs) (hB : B ≤ w.heap.size) (hl : xs.length ≤ 47000000) :
    Calls Try.prog 18 #[x] w (Fresh w (pushB xs)) := by
  cases h : aloneB xs with
  | none => exact push_head B x xs h w hx hB hl
  | some c => exact push_alone B x xs c h w hx
end Go.Proofs.Ytadgaeokiolmmaa
