/-
  One act of the wire laws, written by the program and by the reference: both have written the same bytes behind it. Conditions: sizes within the reach.
-/
import Derived.Test.YtelbcmcffjpdoaaAwake
namespace Go.Proofs.Ytelbcmcffjpdoaa
open Go.RowKit

/-- The bytes that an act writes. -/
def actB (kd n : Int) (bs : List UInt8) : List UInt8 :=
  if kd = 1 then [b8 n] else if kd = 2 then low (n % 65536) 2 else if kd = 3 then low (n % 4294967296) 4 else if kd = 4 then low n 8 else if kd = 5 then sizeB n
  else if kd = 6 then bs.take 300 else sizeB (bs.take 300).length ++ bs.take 300

theorem actB_le (kd n : Int) (bs : List UInt8) : (actB kd n bs).length ≤ 309 := by
  have h9 := sizeB_le n
  have hs := sizeB_le (bs.take 300).length
  have ht : (bs.take 300).length ≤ 300 := List.length_take_le _ _
  unfold actB
  split
  · simp
  split
  · rw [low_length]; omega
  split
  · rw [low_length]; omega
  split
  · rw [low_length]; omega
  split
  · omega
  split
  · omega
  · rw [List.length_append]; omega

/-- A writer and the reference's own list, in two rows of the call's own. -/
def Two (w : World) (g base : Nat) (v o : Value) (xs zs : List UInt8) : Prop :=
  Wr w g base v xs ∧ w.ownsRow base 5 1 o zs.length (zs.map bv) ∧ ∀ k, v.ownBlock = some k → o.ownBlock ≠ some k

def Wrote (w : World) (g base : Nat) (xs zs us : List UInt8) (e : Ending) (w' : World) : Prop :=
  ∃ v' A c, e = .returned (.slice A (zs ++ us).length c) ∧ Two w' g base v' (.slice A (zs ++ us).length c) (xs ++ us) (zs ++ us) ∧ Turns (fun k => k = g ∨ base ≤ k) w w'

theorem two_own_at {w : World} {g base : Nat} {v o : Value} {xs zs : List UInt8} (h : Two w g base v o xs zs) {w1 w2 : World} {ys : List UInt8} {bx : Obj}
    (h1 : WrStep (w.alloc bx) g base v ys w1) (h2 : Below w1.heap.size w1 w2) : w2.ownsRow base 5 1 o zs.length (zs.map bv) := by
  obtain ⟨hw, ho, hd⟩ := h
  obtain ⟨v', hw1, ht1, hb1⟩ := h1
  have ho1 := own_turns (ho.alloc bx) ht1 (fun k hk e => by
    rcases e with rfl | e
    · exact own_block_other ho hw.1 (by decide) hk
    · exact hd k e hk)
  exact own_turns ho1 (Turns.of_below (S := fun _ => False) h2) (fun _ _ h => h)

theorem box_cell {w w1 : World} {g base : Nat} {v : Value} {xs ys : List UInt8} {cs : Array Value} {T : TypeId} (hw : Wr w g base v xs) (h1 : WrStep (w.alloc (.cells cs T)) g base v ys w1) (j : Nat) : w1.cell? ⟨w.heap.size, j, none⟩ = cs[j]? := by
  obtain ⟨v', _, ht, _⟩ := h1
  rw [ht.cell (p := ⟨w.heap.size, j, none⟩) (by simp) (fun e => by
    rcases e with e | e
    · have := hw.lt
      simp only at e
      omega
    · have := (hw.2.lt _ e).2
      simp at this)]
  exact cell_of_row _ _ j _ _ _ (heap_alloc_new w _)

theorem wrote_of {w : World} {g base : Nat} {v o : Value} {xs zs us : List UInt8} (h : Two w g base v o xs zs) {w1 w2 w3 : World} {bx : Obj} (_hbase : base ≤ w.heap.size)
    (h1 : WrStep (w.alloc bx) g base v (xs ++ us) w1) (h2 : Below w1.heap.size w1 w2) {A : Option Addr} {c : Nat}
    (hown : w3.ownsRow base 5 1 (.slice A (zs.length + us.length) c) (zs.length + us.length) (zs.map bv ++ us.map bv)) (hg : w2.grownBy w3 o.ownBlock)
    (hat : (Value.slice A (zs.length + us.length) c).ownBlock = o.ownBlock ∨ (Value.slice A (zs.length + us.length) c).ownBlock = some w2.heap.size) :
    Wrote w g base xs zs us (.returned (.slice A (zs.length + us.length) c)) w3 := by
  have ho2 := two_own_at h h1 h2
  obtain ⟨hw, ho, hd⟩ := h
  obtain ⟨v', hw1, ht1, hb1⟩ := h1
  have hog : o.ownBlock ≠ some g := own_block_other ho hw.1 (by decide)
  have hlen : zs.length + us.length = (zs ++ us).length := (List.length_append).symm
  have hv'o : ∀ k, v'.ownBlock = some k → o.ownBlock ≠ some k := by
    intro k hk
    rcases hb1 with e | ⟨k', e, hk'⟩
    · exact hd k (e ▸ hk)
    · rw [e] at hk
      cases hk
      intro hc
      have := (ho.lt k hc).2
      simp at hk'
      omega
  have hw2 : Wr w2 g base v' (xs ++ us) := hw1.turns (Turns.of_below (S := fun _ => False) h2) (fun h => h) (fun _ _ h => h)
  have ht3 : Turns (fun k => o.ownBlock = some k) w2 w3 := (Turns.refl _ _).grown hg (fun k hk _ => hk)
  refine ⟨v', A, c, by rw [hlen], ⟨hw2.turns ht3 hog hv'o, ?_, ?_⟩, ?_⟩
  · rw [hlen] at hown
    rw [List.map_append]
    exact hown
  · intro k hk
    have hlt := (hw2.2.lt k hk).2
    rw [hlen] at hat
    rcases hat with e | e
    · rw [e]; exact hv'o k hk
    · rw [e]; intro hc; cases hc; omega
  · have t0 : Turns (fun k => k = g ∨ base ≤ k) w w1 := ((Turns.refl _ w).alloc bx).trans ht1 (fun i _ hh => by
      rcases hh with rfl | hh
      · exact .inl rfl
      · exact .inr (hw.2.lt i hh).1)
    have t1 : Turns (fun k => k = g ∨ base ≤ k) w w2 := t0.trans (Turns.of_below (S := fun _ => False) h2) (fun _ _ h => h.elim)
    exact t1.trans ht3 (fun i _ hh => .inr (ho.lt i hh).1)


set_option maxRecDepth 100000 in
set_option maxHeartbeats 1600000 in
theorem write_1 (g base B : Nat) (v o bv' : Value) (n : Int) (xs zs bs : List UInt8) (w : World) (_hn0 : 0 ≤ n) (_hn1 : n < 18446744073709551616) (h : Two w g base v o xs zs) (hx : xs.length ≤ 40000) (hz : zs.length ≤ 40000)
    (hb : Byt w B bv' bs) (hB : B ≤ w.heap.size) (_hBg : B ≤ g) (hBb : B ≤ base) (hbase : base ≤ w.heap.size) :
    Calls Try.prog 8 #[.pointer (some ⟨g, 0, none⟩), o, .agg #[.int .i64 1, .int .u64 n, bv']] w (Wrote w g base xs zs [b8 n]) := by
  obtain ⟨i0, hi, hz0, hz1, hz2⟩ := info_parts info_u8
  obtain ⟨bx, hbx⟩ : ∃ bx, bx = Obj.cells #[.int .i64 1, .int .u64 n, bv'] 31 := ⟨_, rfl⟩
  have hwA : Wr (w.alloc bx) g base v xs := h.1.alloc bx
  have hby : Byt (w.alloc bx) B bv' bs := hb.below ((Below.refl _ _).alloc hB _)
  have hbA : base ≤ (w.alloc bx).heap.size := by simp; omega
  have hBA : B ≤ (w.alloc bx).heap.size := by simp; omega
  have hvB : ∀ k, v.ownBlock = some k → B ≤ k := fun k hk => Nat.le_trans hBb (h.1.2.lt k hk).1
  have hsht := short_any B bv' bs (w.alloc bx) hby
  subst hbx
  have HSH := Lib.hid hsht
  have HV := Lib.hid hvB
  clear hsht hby hvB
  obtain ⟨A0, c0, rfl⟩ := hb.form
  obtain ⟨ss, hss⟩ : ∃ ss, ss = bs.take 300 := ⟨_, rfl⟩
  have hsl : ss.length ≤ 300 := by rw [hss]; exact List.length_take_le _ _
  rw [← hss] at HSH
  skip
  clear hss hb
  have HT := Lib.hid h
  clear h
  go_enter Try.func8, Try.ntmps8
  go_wp2_with fail
  refine HSH.out.mono ?_
  rintro e w0 ⟨⟨y, rfl, hy⟩, rfl⟩
  go_wp2_with fail
  refine (u8_any g base v (n % 256) xs _ (by omega) (by omega) hwA (by omega) hbA).mono ?_
  rintro e w1 ⟨rfl, hs1⟩
  rw [b8_congr (Int.emod_emod_of_dvd n (Int.dvd_refl 256))] at hs1
  have hbox : w1.cell? ⟨w.heap.size, 1, none⟩ = some (.int .u64 n) := box_cell HT.out.1 hs1 1
  have hown2 := two_own_at HT.out hs1 ((Below.refl w1.heap.size w1).alloc (Nat.le_refl _) (.cells #[.int .u8 (n % 256)] 5))
  have hmade : Byt (w1.alloc (.cells #[.int .u8 (n % 256)] 5)) (w1.heap.size + 1) (.slice (some ⟨w1.heap.size, 0, none⟩) 1 1) [b8 n] := Byt.made w1 _ [_] [b8 n] (by simp [bv_b8]) (by unfold maxLen; simp)
  have hsz1 : w.heap.size + 1 ≤ w1.heap.size := by obtain ⟨_, _, ht, _⟩ := hs1; simpa using ht.size
  go_wp2_with (at_builtin; refine wpList_append_bytes rfl (.tmp 20) (.tmp 24) 24 rfl base 5 i0 slice_u8 hi hz0 hz1 hz2 _ zs.length (zs.map bv) rfl hown2 _ _ [b8 n] rfl hmade (by simp; omega) (by simp; omega) ?_; intro v2 w2 hownr hg2 hat2; obtain ⟨A2, c2, rfl⟩ := own_form hownr)
  go_ret
  exact wrote_of HT.out hbase hs1 ((Below.refl _ _).alloc (Nat.le_refl _) _) hownr hg2 hat2

set_option maxRecDepth 100000 in
set_option maxHeartbeats 1600000 in
theorem write_2 (g base B : Nat) (v o bv' : Value) (n : Int) (xs zs bs : List UInt8) (w : World) (_hn0 : 0 ≤ n) (_hn1 : n < 18446744073709551616) (h : Two w g base v o xs zs) (hx : xs.length ≤ 40000) (hz : zs.length ≤ 40000)
    (hb : Byt w B bv' bs) (hB : B ≤ w.heap.size) (_hBg : B ≤ g) (hBb : B ≤ base) (hbase : base ≤ w.heap.size) :
    Calls Try.prog 8 #[.pointer (some ⟨g, 0, none⟩), o, .agg #[.int .i64 2, .int .u64 n, bv']] w (Wrote w g base xs zs (low (n % 65536) 2)) := by
  obtain ⟨i0, hi, hz0, hz1, hz2⟩ := info_parts info_u8
  obtain ⟨bx, hbx⟩ : ∃ bx, bx = Obj.cells #[.int .i64 2, .int .u64 n, bv'] 31 := ⟨_, rfl⟩
  have hwA : Wr (w.alloc bx) g base v xs := h.1.alloc bx
  have hby : Byt (w.alloc bx) B bv' bs := hb.below ((Below.refl _ _).alloc hB _)
  have hbA : base ≤ (w.alloc bx).heap.size := by simp; omega
  have hBA : B ≤ (w.alloc bx).heap.size := by simp; omega
  have hvB : ∀ k, v.ownBlock = some k → B ≤ k := fun k hk => Nat.le_trans hBb (h.1.2.lt k hk).1
  have hsht := short_any B bv' bs (w.alloc bx) hby
  subst hbx
  have HSH := Lib.hid hsht
  have HV := Lib.hid hvB
  clear hsht hby hvB
  obtain ⟨A0, c0, rfl⟩ := hb.form
  obtain ⟨ss, hss⟩ : ∃ ss, ss = bs.take 300 := ⟨_, rfl⟩
  have hsl : ss.length ≤ 300 := by rw [hss]; exact List.length_take_le _ _
  rw [← hss] at HSH
  skip
  clear hss hb
  have HT := Lib.hid h
  clear h
  go_enter Try.func8, Try.ntmps8
  go_wp2_with fail
  refine HSH.out.mono ?_
  rintro e w0 ⟨⟨y, rfl, hy⟩, rfl⟩
  go_wp2_with fail
  refine (u16_any g base v (n % 65536) xs _ (by omega) (by omega) hwA (by omega) hbA).mono ?_
  rintro e w1 ⟨rfl, hs1⟩
  have hbox : w1.cell? ⟨w.heap.size, 1, none⟩ = some (.int .u64 n) := box_cell HT.out.1 hs1 1
  have hsz1 : w.heap.size + 1 ≤ w1.heap.size := by obtain ⟨_, _, ht, _⟩ := hs1; simpa using ht.size
  go_wp2_with fail
  refine (low_num (n % 65536) 2 _ rfl _ (by omega) (by omega) (by omega)).mono ?_
  rintro e w2 ⟨A1, c1, rfl, hown1, hb2⟩
  have hown2 := two_own_at HT.out hs1 hb2
  go_wp2_with (at_builtin; refine wpList_append_bytes rfl (.tmp 33) (.tmp 37) 24 rfl base 5 i0 slice_u8 hi hz0 hz1 hz2 _ zs.length (zs.map bv) rfl hown2 _ _ ((low (n % 65536) 2)) rfl (Byt.of_own hown1) (by simp [low_length]; omega) (by have := hb2.size; omega) ?_; intro v2 w3 hownr hg2 hat2; obtain ⟨A2, c2, rfl⟩ := own_form hownr)
  go_ret
  exact wrote_of HT.out hbase hs1 hb2 hownr hg2 hat2

set_option maxRecDepth 100000 in
set_option maxHeartbeats 1600000 in
theorem write_3 (g base B : Nat) (v o bv' : Value) (n : Int) (xs zs bs : List UInt8) (w : World) (_hn0 : 0 ≤ n) (_hn1 : n < 18446744073709551616) (h : Two w g base v o xs zs) (hx : xs.length ≤ 40000) (hz : zs.length ≤ 40000)
    (hb : Byt w B bv' bs) (hB : B ≤ w.heap.size) (_hBg : B ≤ g) (hBb : B ≤ base) (hbase : base ≤ w.heap.size) :
    Calls Try.prog 8 #[.pointer (some ⟨g, 0, none⟩), o, .agg #[.int .i64 3, .int .u64 n, bv']] w (Wrote w g base xs zs (low (n % 4294967296) 4)) := by
  obtain ⟨i0, hi, hz0, hz1, hz2⟩ := info_parts info_u8
  obtain ⟨bx, hbx⟩ : ∃ bx, bx = Obj.cells #[.int .i64 3, .int .u64 n, bv'] 31 := ⟨_, rfl⟩
  have hwA : Wr (w.alloc bx) g base v xs := h.1.alloc bx
  have hby : Byt (w.alloc bx) B bv' bs := hb.below ((Below.refl _ _).alloc hB _)
  have hbA : base ≤ (w.alloc bx).heap.size := by simp; omega
  have hBA : B ≤ (w.alloc bx).heap.size := by simp; omega
  have hvB : ∀ k, v.ownBlock = some k → B ≤ k := fun k hk => Nat.le_trans hBb (h.1.2.lt k hk).1
  have hsht := short_any B bv' bs (w.alloc bx) hby
  subst hbx
  have HSH := Lib.hid hsht
  have HV := Lib.hid hvB
  clear hsht hby hvB
  obtain ⟨A0, c0, rfl⟩ := hb.form
  obtain ⟨ss, hss⟩ : ∃ ss, ss = bs.take 300 := ⟨_, rfl⟩
  have hsl : ss.length ≤ 300 := by rw [hss]; exact List.length_take_le _ _
  rw [← hss] at HSH
  skip
  clear hss hb
  have HT := Lib.hid h
  clear h
  go_enter Try.func8, Try.ntmps8
  go_wp2_with fail
  refine HSH.out.mono ?_
  rintro e w0 ⟨⟨y, rfl, hy⟩, rfl⟩
  go_wp2_with fail
  refine (u32_any g base v (n % 4294967296) xs _ (by omega) (by omega) hwA (by omega) hbA).mono ?_
  rintro e w1 ⟨rfl, hs1⟩
  have hbox : w1.cell? ⟨w.heap.size, 1, none⟩ = some (.int .u64 n) := box_cell HT.out.1 hs1 1
  have hsz1 : w.heap.size + 1 ≤ w1.heap.size := by obtain ⟨_, _, ht, _⟩ := hs1; simpa using ht.size
  go_wp2_with fail
  refine (low_num (n % 4294967296) 4 _ rfl _ (by omega) (by omega) (by omega)).mono ?_
  rintro e w2 ⟨A1, c1, rfl, hown1, hb2⟩
  have hown2 := two_own_at HT.out hs1 hb2
  go_wp2_with (at_builtin; refine wpList_append_bytes rfl (.tmp 46) (.tmp 50) 24 rfl base 5 i0 slice_u8 hi hz0 hz1 hz2 _ zs.length (zs.map bv) rfl hown2 _ _ ((low (n % 4294967296) 4)) rfl (Byt.of_own hown1) (by simp [low_length]; omega) (by have := hb2.size; omega) ?_; intro v2 w3 hownr hg2 hat2; obtain ⟨A2, c2, rfl⟩ := own_form hownr)
  go_ret
  exact wrote_of HT.out hbase hs1 hb2 hownr hg2 hat2

set_option maxRecDepth 100000 in
set_option maxHeartbeats 1600000 in
theorem write_4 (g base B : Nat) (v o bv' : Value) (n : Int) (xs zs bs : List UInt8) (w : World) (_hn0 : 0 ≤ n) (_hn1 : n < 18446744073709551616) (h : Two w g base v o xs zs) (hx : xs.length ≤ 40000) (hz : zs.length ≤ 40000)
    (hb : Byt w B bv' bs) (hB : B ≤ w.heap.size) (_hBg : B ≤ g) (hBb : B ≤ base) (hbase : base ≤ w.heap.size) :
    Calls Try.prog 8 #[.pointer (some ⟨g, 0, none⟩), o, .agg #[.int .i64 4, .int .u64 n, bv']] w (Wrote w g base xs zs (low n 8)) := by
  obtain ⟨i0, hi, hz0, hz1, hz2⟩ := info_parts info_u8
  obtain ⟨bx, hbx⟩ : ∃ bx, bx = Obj.cells #[.int .i64 4, .int .u64 n, bv'] 31 := ⟨_, rfl⟩
  have hwA : Wr (w.alloc bx) g base v xs := h.1.alloc bx
  have hby : Byt (w.alloc bx) B bv' bs := hb.below ((Below.refl _ _).alloc hB _)
  have hbA : base ≤ (w.alloc bx).heap.size := by simp; omega
  have hBA : B ≤ (w.alloc bx).heap.size := by simp; omega
  have hvB : ∀ k, v.ownBlock = some k → B ≤ k := fun k hk => Nat.le_trans hBb (h.1.2.lt k hk).1
  have hsht := short_any B bv' bs (w.alloc bx) hby
  subst hbx
  have HSH := Lib.hid hsht
  have HV := Lib.hid hvB
  clear hsht hby hvB
  obtain ⟨A0, c0, rfl⟩ := hb.form
  obtain ⟨ss, hss⟩ : ∃ ss, ss = bs.take 300 := ⟨_, rfl⟩
  have hsl : ss.length ≤ 300 := by rw [hss]; exact List.length_take_le _ _
  rw [← hss] at HSH
  skip
  clear hss hb
  have HT := Lib.hid h
  clear h
  go_enter Try.func8, Try.ntmps8
  go_wp2_with fail
  refine HSH.out.mono ?_
  rintro e w0 ⟨⟨y, rfl, hy⟩, rfl⟩
  go_wp2_with fail
  refine (u64_any g base v n xs _ _hn0 _hn1 hwA (by omega) hbA).mono ?_
  rintro e w1 ⟨rfl, hs1⟩
  have hbox : w1.cell? ⟨w.heap.size, 1, none⟩ = some (.int .u64 n) := box_cell HT.out.1 hs1 1
  have hsz1 : w.heap.size + 1 ≤ w1.heap.size := by obtain ⟨_, _, ht, _⟩ := hs1; simpa using ht.size
  go_wp2_with fail
  refine (low_num n 8 _ rfl _ _hn0 _hn1 (by omega)).mono ?_
  rintro e w2 ⟨A1, c1, rfl, hown1, hb2⟩
  have hown2 := two_own_at HT.out hs1 hb2
  go_wp2_with (at_builtin; refine wpList_append_bytes rfl (.tmp 58) (.tmp 61) 24 rfl base 5 i0 slice_u8 hi hz0 hz1 hz2 _ zs.length (zs.map bv) rfl hown2 _ _ ((low n 8)) rfl (Byt.of_own hown1) (by simp [low_length]; omega) (by have := hb2.size; omega) ?_; intro v2 w3 hownr hg2 hat2; obtain ⟨A2, c2, rfl⟩ := own_form hownr)
  go_ret
  exact wrote_of HT.out hbase hs1 hb2 hownr hg2 hat2

set_option maxRecDepth 100000 in
set_option maxHeartbeats 1600000 in
theorem write_5 (g base B : Nat) (v o bv' : Value) (n : Int) (xs zs bs : List UInt8) (w : World) (_hn0 : 0 ≤ n) (_hn1 : n < 18446744073709551616) (h : Two w g base v o xs zs) (hx : xs.length ≤ 40000) (hz : zs.length ≤ 40000)
    (hb : Byt w B bv' bs) (hB : B ≤ w.heap.size) (_hBg : B ≤ g) (hBb : B ≤ base) (hbase : base ≤ w.heap.size) :
    Calls Try.prog 8 #[.pointer (some ⟨g, 0, none⟩), o, .agg #[.int .i64 5, .int .u64 n, bv']] w (Wrote w g base xs zs (sizeB n)) := by
  obtain ⟨i0, hi, hz0, hz1, hz2⟩ := info_parts info_u8
  obtain ⟨bx, hbx⟩ : ∃ bx, bx = Obj.cells #[.int .i64 5, .int .u64 n, bv'] 31 := ⟨_, rfl⟩
  have hwA : Wr (w.alloc bx) g base v xs := h.1.alloc bx
  have hby : Byt (w.alloc bx) B bv' bs := hb.below ((Below.refl _ _).alloc hB _)
  have hbA : base ≤ (w.alloc bx).heap.size := by simp; omega
  have hBA : B ≤ (w.alloc bx).heap.size := by simp; omega
  have hvB : ∀ k, v.ownBlock = some k → B ≤ k := fun k hk => Nat.le_trans hBb (h.1.2.lt k hk).1
  have hsht := short_any B bv' bs (w.alloc bx) hby
  subst hbx
  have HSH := Lib.hid hsht
  have HV := Lib.hid hvB
  clear hsht hby hvB
  obtain ⟨A0, c0, rfl⟩ := hb.form
  obtain ⟨ss, hss⟩ : ∃ ss, ss = bs.take 300 := ⟨_, rfl⟩
  have hsl : ss.length ≤ 300 := by rw [hss]; exact List.length_take_le _ _
  rw [← hss] at HSH
  skip
  clear hss hb
  have HT := Lib.hid h
  clear h
  go_enter Try.func8, Try.ntmps8
  go_wp2_with fail
  refine HSH.out.mono ?_
  rintro e w0 ⟨⟨y, rfl, hy⟩, rfl⟩
  go_wp2_with fail
  refine (size_any g base v n xs _ _hn0 _hn1 hwA (by omega) hbA).mono ?_
  rintro e w1 ⟨rfl, hs1⟩
  have hbox : w1.cell? ⟨w.heap.size, 1, none⟩ = some (.int .u64 n) := box_cell HT.out.1 hs1 1
  have hsz1 : w.heap.size + 1 ≤ w1.heap.size := by obtain ⟨_, _, ht, _⟩ := hs1; simpa using ht.size
  go_wp2_with fail
  refine (rsize_any n _ _hn0 _hn1).mono ?_
  rintro e w2 ⟨A1, c1, rfl, hown1, hb2⟩
  have hown2 := two_own_at HT.out hs1 hb2
  go_wp2_with (at_builtin; refine wpList_append_bytes rfl (.tmp 69) (.tmp 72) 24 rfl base 5 i0 slice_u8 hi hz0 hz1 hz2 _ zs.length (zs.map bv) rfl hown2 _ _ ((sizeB n)) rfl (Byt.of_own hown1) (by have := sizeB_le n; omega) (by have := hb2.size; omega) ?_; intro v2 w3 hownr hg2 hat2; obtain ⟨A2, c2, rfl⟩ := own_form hownr)
  go_ret
  exact wrote_of HT.out hbase hs1 hb2 hownr hg2 hat2

set_option maxRecDepth 100000 in
set_option maxHeartbeats 1600000 in
theorem write_6 (g base B : Nat) (v o bv' : Value) (n : Int) (xs zs bs : List UInt8) (w : World) (_hn0 : 0 ≤ n) (_hn1 : n < 18446744073709551616) (h : Two w g base v o xs zs) (hx : xs.length ≤ 40000) (hz : zs.length ≤ 40000)
    (hb : Byt w B bv' bs) (hB : B ≤ w.heap.size) (_hBg : B ≤ g) (hBb : B ≤ base) (hbase : base ≤ w.heap.size) :
    Calls Try.prog 8 #[.pointer (some ⟨g, 0, none⟩), o, .agg #[.int .i64 6, .int .u64 n, bv']] w (Wrote w g base xs zs (bs.take 300)) := by
  obtain ⟨i0, hi, hz0, hz1, hz2⟩ := info_parts info_u8
  obtain ⟨bx, hbx⟩ : ∃ bx, bx = Obj.cells #[.int .i64 6, .int .u64 n, bv'] 31 := ⟨_, rfl⟩
  have hwA : Wr (w.alloc bx) g base v xs := h.1.alloc bx
  have hby : Byt (w.alloc bx) B bv' bs := hb.below ((Below.refl _ _).alloc hB _)
  have hbA : base ≤ (w.alloc bx).heap.size := by simp; omega
  have hBA : B ≤ (w.alloc bx).heap.size := by simp; omega
  have hvB : ∀ k, v.ownBlock = some k → B ≤ k := fun k hk => Nat.le_trans hBb (h.1.2.lt k hk).1
  have hsht := short_any B bv' bs (w.alloc bx) hby
  subst hbx
  have HSH := Lib.hid hsht
  have HV := Lib.hid hvB
  clear hsht hby hvB
  obtain ⟨A0, c0, rfl⟩ := hb.form
  obtain ⟨ss, hss⟩ : ∃ ss, ss = bs.take 300 := ⟨_, rfl⟩
  have hsl : ss.length ≤ 300 := by rw [hss]; exact List.length_take_le _ _
  rw [← hss] at HSH
  rw [← hss]
  clear hss hb
  have HT := Lib.hid h
  clear h
  go_enter Try.func8, Try.ntmps8
  go_wp2_with fail
  refine HSH.out.mono ?_
  rintro e w0 ⟨⟨y, rfl, hy⟩, rfl⟩
  go_wp2_with fail
  refine (raw_any g base B v y xs ss _ hwA hy (by omega) hbA).mono ?_
  rintro e w1 ⟨rfl, hs1⟩
  have hbox : w1.cell? ⟨w.heap.size, 1, none⟩ = some (.int .u64 n) := box_cell HT.out.1 hs1 1
  have hsz1 : w.heap.size + 1 ≤ w1.heap.size := by obtain ⟨_, _, ht, _⟩ := hs1; simpa using ht.size
  have hy1 : Byt w1 B y ss := by
    obtain ⟨_, _, ht, _⟩ := hs1
    exact hy.below (ht.below_of hBA (fun i hi h => by rcases h with h | h; omega; have := HV.out _ h; omega))
  have hown2 := two_own_at HT.out hs1 (Below.refl w1.heap.size w1)
  go_wp2_with (at_builtin; refine wpList_append_bytes rfl (.tmp 79) (.tmp 80) 24 rfl base 5 i0 slice_u8 hi hz0 hz1 hz2 _ zs.length (zs.map bv) rfl hown2 _ _ ss rfl hy1 (by omega) (by omega) ?_; intro v2 w3 hownr hg2 hat2; obtain ⟨A2, c2, rfl⟩ := own_form hownr)
  go_ret
  exact wrote_of HT.out hbase hs1 (Below.refl _ _) hownr hg2 hat2

set_option maxRecDepth 100000 in
set_option maxHeartbeats 1600000 in
theorem write_7 (g base B : Nat) (v o bv' : Value) (n : Int) (kd : Int) (xs zs bs : List UInt8) (w : World) (_hn0 : 0 ≤ n) (_hn1 : n < 18446744073709551616) (h : Two w g base v o xs zs) (hx : xs.length ≤ 40000) (hz : zs.length ≤ 40000)
    (hb : Byt w B bv' bs) (hB : B ≤ w.heap.size) (_hBg : B ≤ g) (hBb : B ≤ base) (hbase : base ≤ w.heap.size) (h1 : kd ≠ 1) (h2 : kd ≠ 2) (h3 : kd ≠ 3) (h4 : kd ≠ 4) (h5 : kd ≠ 5) (h6 : kd ≠ 6) :
    Calls Try.prog 8 #[.pointer (some ⟨g, 0, none⟩), o, .agg #[.int .i64 kd, .int .u64 n, bv']] w (Wrote w g base xs zs (sizeB (bs.take 300).length ++ bs.take 300)) := by
  obtain ⟨i0, hi, hz0, hz1, hz2⟩ := info_parts info_u8
  obtain ⟨bx, hbx⟩ : ∃ bx, bx = Obj.cells #[.int .i64 kd, .int .u64 n, bv'] 31 := ⟨_, rfl⟩
  have hwA : Wr (w.alloc bx) g base v xs := h.1.alloc bx
  have hby : Byt (w.alloc bx) B bv' bs := hb.below ((Below.refl _ _).alloc hB _)
  have hbA : base ≤ (w.alloc bx).heap.size := by simp; omega
  have hBA : B ≤ (w.alloc bx).heap.size := by simp; omega
  have hvB : ∀ k, v.ownBlock = some k → B ≤ k := fun k hk => Nat.le_trans hBb (h.1.2.lt k hk).1
  have hsht := short_any B bv' bs (w.alloc bx) hby
  subst hbx
  have HSH := Lib.hid hsht
  have HV := Lib.hid hvB
  clear hsht hby hvB
  obtain ⟨A0, c0, rfl⟩ := hb.form
  obtain ⟨ss, hss⟩ : ∃ ss, ss = bs.take 300 := ⟨_, rfl⟩
  have hsl : ss.length ≤ 300 := by rw [hss]; exact List.length_take_le _ _
  rw [← hss] at HSH
  rw [← hss]
  obtain ⟨ts, hts⟩ : ∃ ts, ts = sizeB ss.length ++ ss := ⟨_, rfl⟩
  have htl : ts.length ≤ 309 := by have := sizeB_le ss.length; rw [hts, List.length_append]; omega
  rw [← hts]
  clear hss hb
  have HT := Lib.hid h
  clear h
  have q1 : (kd == 1) = false := by simpa using h1
  have q2 : (kd == 2) = false := by simpa using h2
  have q3 : (kd == 3) = false := by simpa using h3
  have q4 : (kd == 4) = false := by simpa using h4
  have q5 : (kd == 5) = false := by simpa using h5
  have q6 : (kd == 6) = false := by simpa using h6
  clear h1 h2 h3 h4 h5 h6
  have HTS := Lib.hid hts
  clear hts
  go_enter Try.func8, Try.ntmps8
  go_wp2_with fail
  refine HSH.out.mono ?_
  rintro e w0 ⟨⟨y, rfl, hy⟩, rfl⟩
  go_wp2_with fail
  have hby7 := bytes_any g base B v y xs ss _ hwA hy (by omega) (by omega) hbA hBA _hBg HV.out
  rw [← HTS.out] at hby7
  refine hby7.mono ?_
  rintro e w1 ⟨rfl, hs1⟩
  have hbox : w1.cell? ⟨w.heap.size, 1, none⟩ = some (.int .u64 n) := box_cell HT.out.1 hs1 1
  have hsz1 : w.heap.size + 1 ≤ w1.heap.size := by obtain ⟨_, _, ht, _⟩ := hs1; simpa using ht.size
  have hy1 : Byt w1 B y ss := by
    obtain ⟨_, _, ht, _⟩ := hs1
    exact hy.below (ht.below_of hBA (fun i hi h => by rcases h with h | h; omega; have := HV.out _ h; omega))
  have hrt := rtext_any B y ss w1 hy1 (by omega) (by omega)
  rw [← HTS.out] at hrt
  have HRT := Lib.hid hrt
  clear hrt
  go_wp2_with fail
  refine (HRT.out).mono ?_
  rintro e w2 ⟨A1, c1, rfl, hown1, hb2⟩
  have hown2 := two_own_at HT.out hs1 hb2
  go_wp2_with (at_builtin; refine wpList_append_bytes rfl (.tmp 85) (.tmp 87) 24 rfl base 5 i0 slice_u8 hi hz0 hz1 hz2 _ zs.length (zs.map bv) rfl hown2 _ _ ts rfl (Byt.of_own hown1) (by skip; omega) (by have := hb2.size; omega) ?_; intro v2 w3 hownr hg2 hat2; obtain ⟨A2, c2, rfl⟩ := own_form hownr)
  go_ret
  exact wrote_of HT.out hbase hs1 hb2 hownr hg2 hat2

theorem write_any (g base B : Nat) (v o bv' : Value) (kd n : Int) (xs zs bs : List UInt8) (w : World) (hn0 : 0 ≤ n) (hn1 : n < 18446744073709551616) (h : Two w g base v o xs zs) (hx : xs.length ≤ 40000) (hz : zs.length ≤ 40000)
    (hb : Byt w B bv' bs) (hB : B ≤ w.heap.size) (hBg : B ≤ g) (hBb : B ≤ base) (hbase : base ≤ w.heap.size) :
    Calls Try.prog 8 #[.pointer (some ⟨g, 0, none⟩), o, .agg #[.int .i64 kd, .int .u64 n, bv']] w (Wrote w g base xs zs (actB kd n bs)) := by
  by_cases k1 : kd = 1
  · subst k1
    exact write_1 g base B v o bv' n xs zs bs w hn0 hn1 h hx hz hb hB hBg hBb hbase
  by_cases k2 : kd = 2
  · subst k2
    exact write_2 g base B v o bv' n xs zs bs w hn0 hn1 h hx hz hb hB hBg hBb hbase
  by_cases k3 : kd = 3
  · subst k3
    exact write_3 g base B v o bv' n xs zs bs w hn0 hn1 h hx hz hb hB hBg hBb hbase
  by_cases k4 : kd = 4
  · subst k4
    exact write_4 g base B v o bv' n xs zs bs w hn0 hn1 h hx hz hb hB hBg hBb hbase
  by_cases k5 : kd = 5
  · subst k5
    exact write_5 g base B v o bv' n xs zs bs w hn0 hn1 h hx hz hb hB hBg hBb hbase
  by_cases k6 : kd = 6
  · subst k6
    exact write_6 g base B v o bv' n xs zs bs w hn0 hn1 h hx hz hb hB hBg hBb hbase
  have he : actB kd n bs = sizeB (bs.take 300).length ++ bs.take 300 := by unfold actB; rw [if_neg k1, if_neg k2, if_neg k3, if_neg k4, if_neg k5, if_neg k6]
  rw [he]
  exact write_7 g base B v o bv' n kd xs zs bs w hn0 hn1 h hx hz hb hB hBg hBb hbase k1 k2 k3 k4 k5 k6

end Go.Proofs.Ytelbcmcffjpdoaa
