/-
  The reference's reader: Compact. Conditions: sizes within the reach.
-/
import Derived.Test.YtelbcmcffjpdoaaInNum
namespace Go.Proofs.Ytelbcmcffjpdoaa
open Go.RowKit

/-- Two boxes that lie in a world, whatever has been made behind. -/
structure Boxes (w : World) (a : Nat) (c0 c1 : Array Value) : Prop where
  h0 : w.heap[a]? = some (.cells c0 51 (0, 0))
  h1 : w.heap[a + 1]? = some (.cells c1 51 (0, 0))
theorem Boxes.below {w w' : World} {a n : Nat} {c0 c1 : Array Value} (h : Boxes w a c0 c1) (hb : Below n w w') (hn : a + 1 < n) : Boxes w' a c0 c1 :=
  ⟨by rw [hb.block a (by omega)]; exact h.h0, by rw [hb.block (a + 1) hn]; exact h.h1⟩
theorem Boxes.lt {w : World} {a : Nat} {c0 c1 : Array Value} (h : Boxes w a c0 c1) : a + 1 < w.heap.size := (Array.getElem?_eq_some_iff.1 h.h1).1
theorem Boxes.alloc {w : World} {a : Nat} {c0 c1 : Array Value} (h : Boxes w a c0 c1) (o : Obj) : Boxes (w.alloc o) a c0 c1 :=
  h.below ((Below.refl w.heap.size w).alloc (Nat.le_refl _) o) h.lt
theorem Boxes.two (w : World) (c0 c1 : Array Value) : Boxes ((w.alloc (.cells c0 51)).alloc (.cells c1 51)) w.heap.size c0 c1 := by
  have h := two_boxes w (.cells c0 51) (.cells c1 51) (.cells #[] 5)
  have hs : ((w.alloc (.cells c0 51)).alloc (.cells c1 51)).heap.size = w.heap.size + 2 := by simp
  exact ⟨by have := h.1; rwa [Below.heap_alloc _ _ _ (by omega)] at this, by have := h.2; rwa [Below.heap_alloc _ _ _ (by omega)] at this⟩
theorem Boxes.c0 {w : World} {a : Nat} {c0 c1 : Array Value} (h : Boxes w a c0 c1) (j : Nat) (v : Value) (hj : c0[j]? = some v) : w.cell? ⟨a, j, none⟩ = some v := by
  rw [cell_of_row _ a j _ _ _ h.h0, hj]
theorem Boxes.c1 {w : World} {a : Nat} {c0 c1 : Array Value} (h : Boxes w a c0 c1) (j : Nat) (v : Value) (hj : c1[j]? = some v) : w.cell? ⟨a + 1, j, none⟩ = some v := by
  rw [cell_of_row _ (a + 1) j _ _ _ h.h1, hj]
theorem Boxes.f0 {w : World} {a : Nat} {c0 c1 : Array Value} (h : Boxes w a c0 c1) (j : Nat) : w.frozen? ⟨a, j, none⟩ = false := by
  have := h.h0
  simp [World.frozen?, this]
theorem Boxes.f1 {w : World} {a : Nat} {c0 c1 : Array Value} (h : Boxes w a c0 c1) (j : Nat) : w.frozen? ⟨a + 1, j, none⟩ = false := by
  have := h.h1
  simp [World.frozen?, this]

/-- What Compact answers. -/
def CompPost (w : World) (x : Value) (bs : List UInt8) (R : Int × Int × List UInt8) (e : Ending) (w' : World) : Prop :=
  (∃ q, e = .returned (.tuple #[.int .u64 R.1, inV x q R.2.1]) ∧ q ≤ bs.length ∧ (R.2.1 = 0 → bs.drop q = R.2.2)) ∧ Below w.heap.size w w'

set_option maxHeartbeats 3200000 in
theorem fcomp_early (B : Nat) (x : Value) (bs : List UInt8) (p : Nat) (k : Int) (w : World) (hx : Byt w B x bs) (hB : B ≤ w.heap.size) (hp : p ≤ bs.length) (hl : bs.length ≤ 60000) (hk0 : 0 ≤ k) (hk1 : k ≤ 9)
    (hearly : (numR 1 k (bs.drop p)).2.1 ≠ 0 ∨ (numR 1 k (bs.drop p)).1 < 253) :
    Calls Try.prog 54 #[inV x p k] w (CompPost w x bs (numR 1 k (bs.drop p))) := by
  obtain ⟨A, c, rfl⟩ := hx.form
  have hnum : ∀ o1 o2, Calls Try.prog 53 #[inV (.slice A bs.length c) p k, .int .i64 (1 : Nat)] ((w.alloc o1).alloc o2) _ := fun o1 o2 =>
    fnum_any B _ bs p 1 k _ (hx.below (((Below.refl B w).alloc hB o1).alloc (by simp; omega) o2)) (by simp; omega) hp hl (by omega) hk0 hk1
  obtain ⟨R, hR⟩ : ∃ R, R = numR 1 k (bs.drop p) := ⟨_, rfl⟩
  rw [← hR] at hearly ⊢
  simp only [← hR] at hnum
  unfold inV at *
  have HN := Lib.hid hnum
  clear hnum hR
  have htest : (R.2.1 != 0) = true ∨ ((R.2.1 != 0) = false ∧ R.1 < 253) := by
    by_cases h : R.2.1 = 0
    · exact .inr ⟨by simp [h], by rcases hearly with h2 | h2; exact absurd h h2; exact h2⟩
    · exact .inl (by simp [h])
  clear hearly
  rcases htest with ht | ⟨ht, ht2⟩
  all_goals
    go_enter Try.func54, Try.ntmps54
    go_wp2_with fail
    refine (HN.out _ _).mono ?_
    rintro e w1 ⟨⟨q, rfl, hq, hqd⟩, hb⟩
    have hX := (Boxes.two w #[.slice A bs.length c, .int .i64 p, .int .i64 k] #[.slice none 0 0, .int .i64 0, .int .i64 0]).below hb (by simp)
    have d0 : ∀ o, (w1.alloc o).cell? ⟨w.heap.size + 1, 0, none⟩ = some (.slice none 0 0) := fun o => (hX.alloc o).c1 0 _ rfl
    have d1 : ∀ o, (w1.alloc o).cell? ⟨w.heap.size + 1, 1, none⟩ = some (.int .i64 0) := fun o => (hX.alloc o).c1 1 _ rfl
    have d2 : ∀ o, (w1.alloc o).cell? ⟨w.heap.size + 1, 2, none⟩ = some (.int .i64 0) := fun o => (hX.alloc o).c1 2 _ rfl
    have fr2 : ∀ o j, (w1.alloc o).frozen? ⟨w.heap.size + 1, j, none⟩ = false := fun o j => (hX.alloc o).f1 j
    have hne : w.heap.size + 1 ≠ w1.heap.size := by have := hX.lt; omega
    have HB := Lib.hid hb
    have HX := Lib.hid hX
    clear hb hX
    go_wp2_with fail
    go_region
    all_goals go_wp2
    all_goals (
      refine bodyPost_ret (v := .tuple #[.int .u64 R.1, .agg #[.slice A bs.length c, .int .i64 q, .int .i64 R.2.1]]) (by simp [results, Try.results54, go_sem, d0, d1, d2]) rfl ⟨⟨q, rfl, hq, fun _ => hqd⟩, ?_⟩
      have hs1 := HX.out.lt
      have hb0 := (((Below.refl w.heap.size w).alloc (Nat.le_refl _) (.cells #[.slice A bs.length c, .int .i64 p, .int .i64 k] 51)).alloc (by simp) (.cells #[.slice none 0 0, .int .i64 0, .int .i64 0] 51))
      have hb1 := (hb0.trans (HB.out.mono (by simp; omega))).alloc (by omega) (.cells #[.slice A bs.length c, .int .i64 q, .int .i64 R.2.1] 51)
      exact (((hb1.setCell (by simp) _).setCell (by simp) _).setCell (by simp) _).drew)

/-- What Compact makes of the number behind a mark: the error, the number. -/
def lateR (n : Nat) (N : Int × Int × List UInt8) : Int :=
  if N.2.1 ≠ 0 then N.2.1 else if sizeLen N.1 ≠ (n : Int) + 1 then 3 else if 33554432 < N.1 then 2 else 0

set_option maxRecDepth 100000 in
set_option maxHeartbeats 6400000 in
theorem fcomp_late (B : Nat) (x : Value) (bs : List UInt8) (p : Nat) (k : Int) (w : World) (hx : Byt w B x bs) (hB : B ≤ w.heap.size) (hp : p ≤ bs.length) (hl : bs.length ≤ 60000) (hk0 : 0 ≤ k) (hk1 : k ≤ 9)
    (h1 : (numR 1 k (bs.drop p)).2.1 = 0) (h2 : 253 ≤ (numR 1 k (bs.drop p)).1) (h3 : (numR 1 k (bs.drop p)).1 ≤ 255) (n : Nat) (hn : n = wd (numR 1 k (bs.drop p)).1)
    (hbd : 0 ≤ (numR n 0 (numR 1 k (bs.drop p)).2.2).1 ∧ (numR n 0 (numR 1 k (bs.drop p)).2.2).1 ≤ 18446744073709551615) (he : 0 ≤ (numR n 0 (numR 1 k (bs.drop p)).2.2).2.1 ∧ (numR n 0 (numR 1 k (bs.drop p)).2.2).2.1 ≤ 9) :
    Calls Try.prog 54 #[inV x p k] w (CompPost w x bs (if lateR n (numR n 0 (numR 1 k (bs.drop p)).2.2) = 0 then (numR n 0 (numR 1 k (bs.drop p)).2.2) else (0, lateR n (numR n 0 (numR 1 k (bs.drop p)).2.2), []))) := by
  obtain ⟨A, c, rfl⟩ := hx.form
  have hw := wd_bd (numR 1 k (bs.drop p)).1
  have hnum : ∀ o1 o2, Calls Try.prog 53 #[inV (.slice A bs.length c) p k, .int .i64 (1 : Nat)] ((w.alloc o1).alloc o2) _ := fun o1 o2 =>
    fnum_any B _ bs p 1 k _ (hx.below (((Below.refl B w).alloc hB o1).alloc (by simp; omega) o2)) (by simp; omega) hp hl (by omega) hk0 hk1
  obtain ⟨R, hR⟩ : ∃ R, R = numR 1 k (bs.drop p) := ⟨_, rfl⟩
  rw [← hR] at h1 h2 h3 hn hbd he hw ⊢
  simp only [← hR] at hnum
  obtain ⟨N, hN⟩ : ∃ N, N = numR n 0 R.2.2 := ⟨_, rfl⟩
  rw [← hN] at hbd he ⊢
  have hnum2 : ∀ (q : Nat) (hq : q ≤ bs.length) (hqd : bs.drop q = R.2.2) (w1 : World) (hb : Below B w w1) (o : Obj), Calls Try.prog 53 #[.agg #[.slice A bs.length c, .int .i64 q, .int .i64 0], .int .i64 n] (w1.alloc o) fun e w' =>
      (∃ q2 : Nat, e = .returned (.tuple #[.int .u64 N.1, .agg #[.slice A bs.length c, .int .i64 q2, .int .i64 N.2.1]]) ∧ q2 ≤ bs.length ∧ bs.drop q2 = N.2.2) ∧ Below (w1.alloc o).heap.size (w1.alloc o) w' := fun q hq hqd w1 hb o => by
    have h := fnum_any B _ bs q n 0 (w1.alloc o) (hx.below (hb.alloc (Nat.le_trans hB hb.size) o)) (by have := hb.size; simp; omega) hq hl (by omega) (by omega) (by omega)
    rw [hqd, ← hN] at h
    exact h
  unfold inV at *
  have HN := Lib.hid hnum
  have HN2 := Lib.hid hnum2
  clear hnum hnum2 hR hN
  obtain ⟨f, k1, ys1⟩ := R
  obtain ⟨m, e2, ys2⟩ := N
  dsimp only at *
  subst h1
  have hsl := sizeB_length m
  have hszc := fun w => rsize_any m w hbd.1 (by omega)
  have hfn : (f = 253 ∧ n = 2) ∨ (f = 254 ∧ n = 4) ∨ (f = 255 ∧ n = 8) := by
    rcases (by omega : f = 253 ∨ f = 254 ∨ f = 255) with h | h | h <;> subst h <;> simp [wd] at hn <;> omega
  have hcase : (e2 ≠ 0 ∧ lateR n (m, e2, ys2) = e2) ∨ (e2 = 0 ∧ sizeLen m ≠ (n : Int) + 1 ∧ lateR n (m, e2, ys2) = 3) ∨ (e2 = 0 ∧ sizeLen m = (n : Int) + 1 ∧ 33554432 < m ∧ lateR n (m, e2, ys2) = 2) ∨ (e2 = 0 ∧ sizeLen m = (n : Int) + 1 ∧ m ≤ 33554432 ∧ lateR n (m, e2, ys2) = 0) := by
    unfold lateR
    dsimp only
    by_cases c1 : e2 = 0
    · by_cases c2 : sizeLen m = (n : Int) + 1
      · by_cases c3 : 33554432 < m
        · exact .inr (.inr (.inl ⟨c1, c2, c3, by simp [c1, c2, c3]⟩))
        · exact .inr (.inr (.inr ⟨c1, c2, by omega, by simp [c1, c2, c3]⟩))
      · exact .inr (.inl ⟨c1, c2, by simp [c1, c2]⟩)
    · exact .inl ⟨c1, by simp [c1]⟩
  generalize lateR n (m, e2, ys2) = L at *
  have HSL := Lib.hid hsl
  have HSC := Lib.hid hszc
  clear hsl hszc hn hw hx
  rcases hfn with ⟨rfl, rfl⟩ | ⟨rfl, rfl⟩ | ⟨rfl, rfl⟩
  · rcases hcase with ⟨c1, rfl⟩ | ⟨rfl, c2, rfl⟩ | ⟨rfl, c2, c3, rfl⟩ | ⟨rfl, c2, c3, rfl⟩
    · have c1b : (L == 0) = false := by simp [c1]
      have c1n : (L != 0) = true := by simp [c1]
      rw [if_neg c1]
      have HC := Lib.hid c1
      clear c1
      go_enter Try.func54, Try.ntmps54
      go_wp2_with fail
      refine (HN.out _ _).mono ?_
      rintro e w1 ⟨⟨q, rfl, hq, hqd⟩, hb⟩
      have hX := (Boxes.two w #[.slice A bs.length c, .int .i64 p, .int .i64 k] #[.slice none 0 0, .int .i64 0, .int .i64 0]).below hb (by simp)
      have hwb : Below w.heap.size w w1 := (((Below.refl _ w).alloc (Nat.le_refl _) _).alloc (by simp) _).trans (hb.mono (by simp; omega))
      have HB1 := Lib.hid hwb
      have HX := Lib.hid hX
      have HQD := Lib.hid hqd
      clear hb hX hwb hqd
      go_wp2_with fail
      refine (HN2.out q hq HQD.out w1 (HB1.out.mono hB) _).mono ?_
      rintro e w2 ⟨⟨q2, rfl, hq2, hqd2⟩, hb2⟩
      have hX2 := (HX.out.alloc (.cells #[.slice A bs.length c, .int .i64 q, .int .i64 0] 51)).below hb2 (by have := HX.out.lt; simp; omega)
      have hsz2 := hb2.size
      have hs2 : w1.heap.size + 1 ≤ w2.heap.size := by simpa using hsz2
      have hlt := HX.out.lt
      have hs1 := HB1.out.size
      have HB2 := Lib.hid hb2
      have HX2 := Lib.hid hX2
      clear hb2 hsz2 hX2
      have r0 : ∀ o, (w2.alloc o).cell? ⟨w.heap.size, 0, none⟩ = some (.slice A bs.length c) := fun o => (HX2.out.alloc o).c0 0 _ rfl
      have r1 : ∀ o, (w2.alloc o).cell? ⟨w.heap.size, 1, none⟩ = some (.int .i64 p) := fun o => (HX2.out.alloc o).c0 1 _ rfl
      have r2 : ∀ o, (w2.alloc o).cell? ⟨w.heap.size, 2, none⟩ = some (.int .i64 k) := fun o => (HX2.out.alloc o).c0 2 _ rfl
      have fr0 : ∀ o j, (w2.alloc o).frozen? ⟨w.heap.size, j, none⟩ = false := fun o j => (HX2.out.alloc o).f0 j
      have d0 : ∀ o, (w2.alloc o).cell? ⟨w.heap.size + 1, 0, none⟩ = some (.slice none 0 0) := fun o => (HX2.out.alloc o).c1 0 _ rfl
      have d1 : ∀ o, (w2.alloc o).cell? ⟨w.heap.size + 1, 1, none⟩ = some (.int .i64 0) := fun o => (HX2.out.alloc o).c1 1 _ rfl
      have d2 : ∀ o, (w2.alloc o).cell? ⟨w.heap.size + 1, 2, none⟩ = some (.int .i64 0) := fun o => (HX2.out.alloc o).c1 2 _ rfl
      have fr1 : ∀ o j, (w2.alloc o).frozen? ⟨w.heap.size + 1, j, none⟩ = false := fun o j => (HX2.out.alloc o).f1 j
      have hne0 : w.heap.size ≠ w2.heap.size := by omega
      have hne1 : w.heap.size + 1 ≠ w2.heap.size := by omega
      go_wp2_with fail
      go_region
      all_goals go_wp2
      all_goals (
        refine bodyPost_ret (v := .tuple #[.int .u64 0, .agg #[.slice A bs.length c, .int .i64 (p : Int), .int .i64 L]]) (by simp [results, Try.results54, go_sem, d0, d1, d2]) rfl ⟨⟨p, rfl, hp, fun h => absurd h HC.out⟩, ?_⟩
        have hb1 := ((HB1.out.alloc hs1 (.cells #[.slice A bs.length c, .int .i64 q, .int .i64 0] 51)).trans (HB2.out.mono (by simp; omega))).alloc (by omega) (.cells #[.slice A bs.length c, .int .i64 q2, .int .i64 L] 51)
        exact ((((hb1.setCell (Nat.le_refl _) _).setCell (by simp) _).setCell (by simp) _).setCell (by simp) _).drew)
    · have hsl : (((sizeB m).length : Int) != 3) = true := by rw [HSL.out]; simp; exact c2
      rw [if_neg (by decide)]
      clear c2
      go_enter Try.func54, Try.ntmps54
      go_wp2_with fail
      refine (HN.out _ _).mono ?_
      rintro e w1 ⟨⟨q, rfl, hq, hqd⟩, hb⟩
      have hX := (Boxes.two w #[.slice A bs.length c, .int .i64 p, .int .i64 k] #[.slice none 0 0, .int .i64 0, .int .i64 0]).below hb (by simp)
      have hwb : Below w.heap.size w w1 := (((Below.refl _ w).alloc (Nat.le_refl _) _).alloc (by simp) _).trans (hb.mono (by simp; omega))
      have HB1 := Lib.hid hwb
      have HX := Lib.hid hX
      have HQD := Lib.hid hqd
      clear hb hX hwb hqd
      go_wp2_with fail
      refine (HN2.out q hq HQD.out w1 (HB1.out.mono hB) _).mono ?_
      rintro e w2 ⟨⟨q2, rfl, hq2, hqd2⟩, hb2⟩
      have hX2 := (HX.out.alloc (.cells #[.slice A bs.length c, .int .i64 q, .int .i64 0] 51)).below hb2 (by have := HX.out.lt; simp; omega)
      have hsz2 := hb2.size
      have hs2 : w1.heap.size + 1 ≤ w2.heap.size := by simpa using hsz2
      have hlt := HX.out.lt
      have hs1 := HB1.out.size
      have HB2 := Lib.hid hb2
      have HX2 := Lib.hid hX2
      clear hb2 hsz2 hX2
      go_wp2_with fail
      refine (HSC.out _).mono ?_
      rintro e w3 ⟨A3, c3, rfl, hown3, hb3⟩
      clear hown3
      have hX3 := (HX2.out.alloc (.cells #[.slice A bs.length c, .int .i64 q2, .int .i64 0] 51)).below hb3 (by have := HX2.out.lt; simp; omega)
      have hT3 : w3.heap[w2.heap.size]? = some (.cells #[.slice A bs.length c, .int .i64 q2, .int .i64 0] 51 (0, 0)) := by
        rw [hb3.block w2.heap.size (by simp)]; exact heap_alloc_new w2 _
      have r0 : w3.cell? ⟨w.heap.size, 0, none⟩ = some (.slice A bs.length c) := hX3.c0 0 _ rfl
      have r1 : w3.cell? ⟨w.heap.size, 1, none⟩ = some (.int .i64 p) := hX3.c0 1 _ rfl
      have r2 : w3.cell? ⟨w.heap.size, 2, none⟩ = some (.int .i64 k) := hX3.c0 2 _ rfl
      have fr0 : ∀ j, w3.frozen? ⟨w.heap.size, j, none⟩ = false := fun j => hX3.f0 j
      have d0 : w3.cell? ⟨w.heap.size + 1, 0, none⟩ = some (.slice none 0 0) := hX3.c1 0 _ rfl
      have d1 : w3.cell? ⟨w.heap.size + 1, 1, none⟩ = some (.int .i64 0) := hX3.c1 1 _ rfl
      have d2 : w3.cell? ⟨w.heap.size + 1, 2, none⟩ = some (.int .i64 0) := hX3.c1 2 _ rfl
      have fr1 : ∀ j, w3.frozen? ⟨w.heap.size + 1, j, none⟩ = false := fun j => hX3.f1 j
      have t0 : w3.cell? ⟨w2.heap.size, 0, none⟩ = some (.slice A bs.length c) := cell_of_row _ w2.heap.size 0 _ _ _ hT3
      have t1 : w3.cell? ⟨w2.heap.size, 1, none⟩ = some (.int .i64 q2) := cell_of_row _ w2.heap.size 1 _ _ _ hT3
      have t2 : w3.cell? ⟨w2.heap.size, 2, none⟩ = some (.int .i64 0) := cell_of_row _ w2.heap.size 2 _ _ _ hT3
      have hne0 : w.heap.size ≠ w2.heap.size := by omega
      have hne1 : w.heap.size + 1 ≠ w2.heap.size := by omega
      have HB3 := Lib.hid hb3
      have HQ2 := Lib.hid hqd2
      clear hb3 hX3 hT3 hqd2
      go_wp2_with fail
      go_region
      all_goals go_wp2
      all_goals (
        refine bodyPost_ret (v := .tuple #[.int .u64 0, .agg #[.slice A bs.length c, .int .i64 (p : Int), .int .i64 3]]) (by simp [results, Try.results54, go_sem, d0, d1, d2]) rfl ⟨⟨p, rfl, hp, fun h => absurd h (by decide)⟩, ?_⟩
        have hb1 := ((HB1.out.alloc hs1 (.cells #[.slice A bs.length c, .int .i64 q, .int .i64 0] 51)).trans (HB2.out.mono (by simp; omega))).alloc (by omega) (.cells #[.slice A bs.length c, .int .i64 q2, .int .i64 0] 51)
        have hb2' := hb1.trans (HB3.out.mono (by simp; omega))
        exact ((((hb2'.setCell (Nat.le_refl _) _).setCell (by simp) _).setCell (by simp) _).setCell (by simp) _).drew)
    · have hsl : ((sizeB m).length : Int) = 3 := by rw [HSL.out]; exact c2
      rw [if_neg (by decide)]
      clear c2
      go_enter Try.func54, Try.ntmps54
      go_wp2_with fail
      refine (HN.out _ _).mono ?_
      rintro e w1 ⟨⟨q, rfl, hq, hqd⟩, hb⟩
      have hX := (Boxes.two w #[.slice A bs.length c, .int .i64 p, .int .i64 k] #[.slice none 0 0, .int .i64 0, .int .i64 0]).below hb (by simp)
      have hwb : Below w.heap.size w w1 := (((Below.refl _ w).alloc (Nat.le_refl _) _).alloc (by simp) _).trans (hb.mono (by simp; omega))
      have HB1 := Lib.hid hwb
      have HX := Lib.hid hX
      have HQD := Lib.hid hqd
      clear hb hX hwb hqd
      go_wp2_with fail
      refine (HN2.out q hq HQD.out w1 (HB1.out.mono hB) _).mono ?_
      rintro e w2 ⟨⟨q2, rfl, hq2, hqd2⟩, hb2⟩
      have hX2 := (HX.out.alloc (.cells #[.slice A bs.length c, .int .i64 q, .int .i64 0] 51)).below hb2 (by have := HX.out.lt; simp; omega)
      have hsz2 := hb2.size
      have hs2 : w1.heap.size + 1 ≤ w2.heap.size := by simpa using hsz2
      have hlt := HX.out.lt
      have hs1 := HB1.out.size
      have HB2 := Lib.hid hb2
      have HX2 := Lib.hid hX2
      clear hb2 hsz2 hX2
      go_wp2_with fail
      refine (HSC.out _).mono ?_
      rintro e w3 ⟨A3, c3, rfl, hown3, hb3⟩
      clear hown3
      have hX3 := (HX2.out.alloc (.cells #[.slice A bs.length c, .int .i64 q2, .int .i64 0] 51)).below hb3 (by have := HX2.out.lt; simp; omega)
      have hT3 : w3.heap[w2.heap.size]? = some (.cells #[.slice A bs.length c, .int .i64 q2, .int .i64 0] 51 (0, 0)) := by
        rw [hb3.block w2.heap.size (by simp)]; exact heap_alloc_new w2 _
      have r0 : w3.cell? ⟨w.heap.size, 0, none⟩ = some (.slice A bs.length c) := hX3.c0 0 _ rfl
      have r1 : w3.cell? ⟨w.heap.size, 1, none⟩ = some (.int .i64 p) := hX3.c0 1 _ rfl
      have r2 : w3.cell? ⟨w.heap.size, 2, none⟩ = some (.int .i64 k) := hX3.c0 2 _ rfl
      have fr0 : ∀ j, w3.frozen? ⟨w.heap.size, j, none⟩ = false := fun j => hX3.f0 j
      have d0 : w3.cell? ⟨w.heap.size + 1, 0, none⟩ = some (.slice none 0 0) := hX3.c1 0 _ rfl
      have d1 : w3.cell? ⟨w.heap.size + 1, 1, none⟩ = some (.int .i64 0) := hX3.c1 1 _ rfl
      have d2 : w3.cell? ⟨w.heap.size + 1, 2, none⟩ = some (.int .i64 0) := hX3.c1 2 _ rfl
      have fr1 : ∀ j, w3.frozen? ⟨w.heap.size + 1, j, none⟩ = false := fun j => hX3.f1 j
      have t0 : w3.cell? ⟨w2.heap.size, 0, none⟩ = some (.slice A bs.length c) := cell_of_row _ w2.heap.size 0 _ _ _ hT3
      have t1 : w3.cell? ⟨w2.heap.size, 1, none⟩ = some (.int .i64 q2) := cell_of_row _ w2.heap.size 1 _ _ _ hT3
      have t2 : w3.cell? ⟨w2.heap.size, 2, none⟩ = some (.int .i64 0) := cell_of_row _ w2.heap.size 2 _ _ _ hT3
      have hne0 : w.heap.size ≠ w2.heap.size := by omega
      have hne1 : w.heap.size + 1 ≠ w2.heap.size := by omega
      have HB3 := Lib.hid hb3
      have HQ2 := Lib.hid hqd2
      clear hb3 hX3 hT3 hqd2
      go_wp2_with fail
      go_region
      all_goals go_wp2
      all_goals (
        refine bodyPost_ret (v := .tuple #[.int .u64 0, .agg #[.slice A bs.length c, .int .i64 (p : Int), .int .i64 2]]) (by simp [results, Try.results54, go_sem, d0, d1, d2]) rfl ⟨⟨p, rfl, hp, fun h => absurd h (by decide)⟩, ?_⟩
        have hb1 := ((HB1.out.alloc hs1 (.cells #[.slice A bs.length c, .int .i64 q, .int .i64 0] 51)).trans (HB2.out.mono (by simp; omega))).alloc (by omega) (.cells #[.slice A bs.length c, .int .i64 q2, .int .i64 0] 51)
        have hb2' := hb1.trans (HB3.out.mono (by simp; omega))
        exact ((((hb2'.setCell (Nat.le_refl _) _).setCell (by simp) _).setCell (by simp) _).setCell (by simp) _).drew)
    · have hsl : ((sizeB m).length : Int) = 3 := by rw [HSL.out]; exact c2
      rw [if_pos rfl]
      clear c2
      go_enter Try.func54, Try.ntmps54
      go_wp2_with fail
      refine (HN.out _ _).mono ?_
      rintro e w1 ⟨⟨q, rfl, hq, hqd⟩, hb⟩
      have hX := (Boxes.two w #[.slice A bs.length c, .int .i64 p, .int .i64 k] #[.slice none 0 0, .int .i64 0, .int .i64 0]).below hb (by simp)
      have hwb : Below w.heap.size w w1 := (((Below.refl _ w).alloc (Nat.le_refl _) _).alloc (by simp) _).trans (hb.mono (by simp; omega))
      have HB1 := Lib.hid hwb
      have HX := Lib.hid hX
      have HQD := Lib.hid hqd
      clear hb hX hwb hqd
      go_wp2_with fail
      refine (HN2.out q hq HQD.out w1 (HB1.out.mono hB) _).mono ?_
      rintro e w2 ⟨⟨q2, rfl, hq2, hqd2⟩, hb2⟩
      have hX2 := (HX.out.alloc (.cells #[.slice A bs.length c, .int .i64 q, .int .i64 0] 51)).below hb2 (by have := HX.out.lt; simp; omega)
      have hsz2 := hb2.size
      have hs2 : w1.heap.size + 1 ≤ w2.heap.size := by simpa using hsz2
      have hlt := HX.out.lt
      have hs1 := HB1.out.size
      have HB2 := Lib.hid hb2
      have HX2 := Lib.hid hX2
      clear hb2 hsz2 hX2
      go_wp2_with fail
      refine (HSC.out _).mono ?_
      rintro e w3 ⟨A3, c3, rfl, hown3, hb3⟩
      clear hown3
      have hX3 := (HX2.out.alloc (.cells #[.slice A bs.length c, .int .i64 q2, .int .i64 0] 51)).below hb3 (by have := HX2.out.lt; simp; omega)
      have hT3 : w3.heap[w2.heap.size]? = some (.cells #[.slice A bs.length c, .int .i64 q2, .int .i64 0] 51 (0, 0)) := by
        rw [hb3.block w2.heap.size (by simp)]; exact heap_alloc_new w2 _
      have r0 : w3.cell? ⟨w.heap.size, 0, none⟩ = some (.slice A bs.length c) := hX3.c0 0 _ rfl
      have r1 : w3.cell? ⟨w.heap.size, 1, none⟩ = some (.int .i64 p) := hX3.c0 1 _ rfl
      have r2 : w3.cell? ⟨w.heap.size, 2, none⟩ = some (.int .i64 k) := hX3.c0 2 _ rfl
      have fr0 : ∀ j, w3.frozen? ⟨w.heap.size, j, none⟩ = false := fun j => hX3.f0 j
      have d0 : w3.cell? ⟨w.heap.size + 1, 0, none⟩ = some (.slice none 0 0) := hX3.c1 0 _ rfl
      have d1 : w3.cell? ⟨w.heap.size + 1, 1, none⟩ = some (.int .i64 0) := hX3.c1 1 _ rfl
      have d2 : w3.cell? ⟨w.heap.size + 1, 2, none⟩ = some (.int .i64 0) := hX3.c1 2 _ rfl
      have fr1 : ∀ j, w3.frozen? ⟨w.heap.size + 1, j, none⟩ = false := fun j => hX3.f1 j
      have t0 : w3.cell? ⟨w2.heap.size, 0, none⟩ = some (.slice A bs.length c) := cell_of_row _ w2.heap.size 0 _ _ _ hT3
      have t1 : w3.cell? ⟨w2.heap.size, 1, none⟩ = some (.int .i64 q2) := cell_of_row _ w2.heap.size 1 _ _ _ hT3
      have t2 : w3.cell? ⟨w2.heap.size, 2, none⟩ = some (.int .i64 0) := cell_of_row _ w2.heap.size 2 _ _ _ hT3
      have hne0 : w.heap.size ≠ w2.heap.size := by omega
      have hne1 : w.heap.size + 1 ≠ w2.heap.size := by omega
      have HB3 := Lib.hid hb3
      have HQ2 := Lib.hid hqd2
      clear hb3 hX3 hT3 hqd2
      go_wp2_with fail
      go_region
      all_goals go_wp2
      all_goals (
        refine bodyPost_ret (v := .tuple #[.int .u64 m, .agg #[.slice A bs.length c, .int .i64 (q2 : Int), .int .i64 0]]) (by simp [results, Try.results54, go_sem, d0, d1, d2]) rfl ⟨⟨q2, rfl, hq2, fun _ => HQ2.out⟩, ?_⟩
        have hb1 := ((HB1.out.alloc hs1 (.cells #[.slice A bs.length c, .int .i64 q, .int .i64 0] 51)).trans (HB2.out.mono (by simp; omega))).alloc (by omega) (.cells #[.slice A bs.length c, .int .i64 q2, .int .i64 0] 51)
        have hb2' := hb1.trans (HB3.out.mono (by simp; omega))
        exact (((hb2'.setCell (by simp) _).setCell (by simp) _).setCell (by simp) _).drew)
  · rcases hcase with ⟨c1, rfl⟩ | ⟨rfl, c2, rfl⟩ | ⟨rfl, c2, c3, rfl⟩ | ⟨rfl, c2, c3, rfl⟩
    · have c1b : (L == 0) = false := by simp [c1]
      have c1n : (L != 0) = true := by simp [c1]
      rw [if_neg c1]
      have HC := Lib.hid c1
      clear c1
      go_enter Try.func54, Try.ntmps54
      go_wp2_with fail
      refine (HN.out _ _).mono ?_
      rintro e w1 ⟨⟨q, rfl, hq, hqd⟩, hb⟩
      have hX := (Boxes.two w #[.slice A bs.length c, .int .i64 p, .int .i64 k] #[.slice none 0 0, .int .i64 0, .int .i64 0]).below hb (by simp)
      have hwb : Below w.heap.size w w1 := (((Below.refl _ w).alloc (Nat.le_refl _) _).alloc (by simp) _).trans (hb.mono (by simp; omega))
      have HB1 := Lib.hid hwb
      have HX := Lib.hid hX
      have HQD := Lib.hid hqd
      clear hb hX hwb hqd
      go_wp2_with fail
      refine (HN2.out q hq HQD.out w1 (HB1.out.mono hB) _).mono ?_
      rintro e w2 ⟨⟨q2, rfl, hq2, hqd2⟩, hb2⟩
      have hX2 := (HX.out.alloc (.cells #[.slice A bs.length c, .int .i64 q, .int .i64 0] 51)).below hb2 (by have := HX.out.lt; simp; omega)
      have hsz2 := hb2.size
      have hs2 : w1.heap.size + 1 ≤ w2.heap.size := by simpa using hsz2
      have hlt := HX.out.lt
      have hs1 := HB1.out.size
      have HB2 := Lib.hid hb2
      have HX2 := Lib.hid hX2
      clear hb2 hsz2 hX2
      have r0 : ∀ o, (w2.alloc o).cell? ⟨w.heap.size, 0, none⟩ = some (.slice A bs.length c) := fun o => (HX2.out.alloc o).c0 0 _ rfl
      have r1 : ∀ o, (w2.alloc o).cell? ⟨w.heap.size, 1, none⟩ = some (.int .i64 p) := fun o => (HX2.out.alloc o).c0 1 _ rfl
      have r2 : ∀ o, (w2.alloc o).cell? ⟨w.heap.size, 2, none⟩ = some (.int .i64 k) := fun o => (HX2.out.alloc o).c0 2 _ rfl
      have fr0 : ∀ o j, (w2.alloc o).frozen? ⟨w.heap.size, j, none⟩ = false := fun o j => (HX2.out.alloc o).f0 j
      have d0 : ∀ o, (w2.alloc o).cell? ⟨w.heap.size + 1, 0, none⟩ = some (.slice none 0 0) := fun o => (HX2.out.alloc o).c1 0 _ rfl
      have d1 : ∀ o, (w2.alloc o).cell? ⟨w.heap.size + 1, 1, none⟩ = some (.int .i64 0) := fun o => (HX2.out.alloc o).c1 1 _ rfl
      have d2 : ∀ o, (w2.alloc o).cell? ⟨w.heap.size + 1, 2, none⟩ = some (.int .i64 0) := fun o => (HX2.out.alloc o).c1 2 _ rfl
      have fr1 : ∀ o j, (w2.alloc o).frozen? ⟨w.heap.size + 1, j, none⟩ = false := fun o j => (HX2.out.alloc o).f1 j
      have hne0 : w.heap.size ≠ w2.heap.size := by omega
      have hne1 : w.heap.size + 1 ≠ w2.heap.size := by omega
      go_wp2_with fail
      go_region
      all_goals go_wp2
      all_goals (
        refine bodyPost_ret (v := .tuple #[.int .u64 0, .agg #[.slice A bs.length c, .int .i64 (p : Int), .int .i64 L]]) (by simp [results, Try.results54, go_sem, d0, d1, d2]) rfl ⟨⟨p, rfl, hp, fun h => absurd h HC.out⟩, ?_⟩
        have hb1 := ((HB1.out.alloc hs1 (.cells #[.slice A bs.length c, .int .i64 q, .int .i64 0] 51)).trans (HB2.out.mono (by simp; omega))).alloc (by omega) (.cells #[.slice A bs.length c, .int .i64 q2, .int .i64 L] 51)
        exact ((((hb1.setCell (Nat.le_refl _) _).setCell (by simp) _).setCell (by simp) _).setCell (by simp) _).drew)
    · have hsl : (((sizeB m).length : Int) != 5) = true := by rw [HSL.out]; simp; exact c2
      rw [if_neg (by decide)]
      clear c2
      go_enter Try.func54, Try.ntmps54
      go_wp2_with fail
      refine (HN.out _ _).mono ?_
      rintro e w1 ⟨⟨q, rfl, hq, hqd⟩, hb⟩
      have hX := (Boxes.two w #[.slice A bs.length c, .int .i64 p, .int .i64 k] #[.slice none 0 0, .int .i64 0, .int .i64 0]).below hb (by simp)
      have hwb : Below w.heap.size w w1 := (((Below.refl _ w).alloc (Nat.le_refl _) _).alloc (by simp) _).trans (hb.mono (by simp; omega))
      have HB1 := Lib.hid hwb
      have HX := Lib.hid hX
      have HQD := Lib.hid hqd
      clear hb hX hwb hqd
      go_wp2_with fail
      refine (HN2.out q hq HQD.out w1 (HB1.out.mono hB) _).mono ?_
      rintro e w2 ⟨⟨q2, rfl, hq2, hqd2⟩, hb2⟩
      have hX2 := (HX.out.alloc (.cells #[.slice A bs.length c, .int .i64 q, .int .i64 0] 51)).below hb2 (by have := HX.out.lt; simp; omega)
      have hsz2 := hb2.size
      have hs2 : w1.heap.size + 1 ≤ w2.heap.size := by simpa using hsz2
      have hlt := HX.out.lt
      have hs1 := HB1.out.size
      have HB2 := Lib.hid hb2
      have HX2 := Lib.hid hX2
      clear hb2 hsz2 hX2
      go_wp2_with fail
      refine (HSC.out _).mono ?_
      rintro e w3 ⟨A3, c3, rfl, hown3, hb3⟩
      clear hown3
      have hX3 := (HX2.out.alloc (.cells #[.slice A bs.length c, .int .i64 q2, .int .i64 0] 51)).below hb3 (by have := HX2.out.lt; simp; omega)
      have hT3 : w3.heap[w2.heap.size]? = some (.cells #[.slice A bs.length c, .int .i64 q2, .int .i64 0] 51 (0, 0)) := by
        rw [hb3.block w2.heap.size (by simp)]; exact heap_alloc_new w2 _
      have r0 : w3.cell? ⟨w.heap.size, 0, none⟩ = some (.slice A bs.length c) := hX3.c0 0 _ rfl
      have r1 : w3.cell? ⟨w.heap.size, 1, none⟩ = some (.int .i64 p) := hX3.c0 1 _ rfl
      have r2 : w3.cell? ⟨w.heap.size, 2, none⟩ = some (.int .i64 k) := hX3.c0 2 _ rfl
      have fr0 : ∀ j, w3.frozen? ⟨w.heap.size, j, none⟩ = false := fun j => hX3.f0 j
      have d0 : w3.cell? ⟨w.heap.size + 1, 0, none⟩ = some (.slice none 0 0) := hX3.c1 0 _ rfl
      have d1 : w3.cell? ⟨w.heap.size + 1, 1, none⟩ = some (.int .i64 0) := hX3.c1 1 _ rfl
      have d2 : w3.cell? ⟨w.heap.size + 1, 2, none⟩ = some (.int .i64 0) := hX3.c1 2 _ rfl
      have fr1 : ∀ j, w3.frozen? ⟨w.heap.size + 1, j, none⟩ = false := fun j => hX3.f1 j
      have t0 : w3.cell? ⟨w2.heap.size, 0, none⟩ = some (.slice A bs.length c) := cell_of_row _ w2.heap.size 0 _ _ _ hT3
      have t1 : w3.cell? ⟨w2.heap.size, 1, none⟩ = some (.int .i64 q2) := cell_of_row _ w2.heap.size 1 _ _ _ hT3
      have t2 : w3.cell? ⟨w2.heap.size, 2, none⟩ = some (.int .i64 0) := cell_of_row _ w2.heap.size 2 _ _ _ hT3
      have hne0 : w.heap.size ≠ w2.heap.size := by omega
      have hne1 : w.heap.size + 1 ≠ w2.heap.size := by omega
      have HB3 := Lib.hid hb3
      have HQ2 := Lib.hid hqd2
      clear hb3 hX3 hT3 hqd2
      go_wp2_with fail
      go_region
      all_goals go_wp2
      all_goals (
        refine bodyPost_ret (v := .tuple #[.int .u64 0, .agg #[.slice A bs.length c, .int .i64 (p : Int), .int .i64 3]]) (by simp [results, Try.results54, go_sem, d0, d1, d2]) rfl ⟨⟨p, rfl, hp, fun h => absurd h (by decide)⟩, ?_⟩
        have hb1 := ((HB1.out.alloc hs1 (.cells #[.slice A bs.length c, .int .i64 q, .int .i64 0] 51)).trans (HB2.out.mono (by simp; omega))).alloc (by omega) (.cells #[.slice A bs.length c, .int .i64 q2, .int .i64 0] 51)
        have hb2' := hb1.trans (HB3.out.mono (by simp; omega))
        exact ((((hb2'.setCell (Nat.le_refl _) _).setCell (by simp) _).setCell (by simp) _).setCell (by simp) _).drew)
    · have hsl : ((sizeB m).length : Int) = 5 := by rw [HSL.out]; exact c2
      rw [if_neg (by decide)]
      clear c2
      go_enter Try.func54, Try.ntmps54
      go_wp2_with fail
      refine (HN.out _ _).mono ?_
      rintro e w1 ⟨⟨q, rfl, hq, hqd⟩, hb⟩
      have hX := (Boxes.two w #[.slice A bs.length c, .int .i64 p, .int .i64 k] #[.slice none 0 0, .int .i64 0, .int .i64 0]).below hb (by simp)
      have hwb : Below w.heap.size w w1 := (((Below.refl _ w).alloc (Nat.le_refl _) _).alloc (by simp) _).trans (hb.mono (by simp; omega))
      have HB1 := Lib.hid hwb
      have HX := Lib.hid hX
      have HQD := Lib.hid hqd
      clear hb hX hwb hqd
      go_wp2_with fail
      refine (HN2.out q hq HQD.out w1 (HB1.out.mono hB) _).mono ?_
      rintro e w2 ⟨⟨q2, rfl, hq2, hqd2⟩, hb2⟩
      have hX2 := (HX.out.alloc (.cells #[.slice A bs.length c, .int .i64 q, .int .i64 0] 51)).below hb2 (by have := HX.out.lt; simp; omega)
      have hsz2 := hb2.size
      have hs2 : w1.heap.size + 1 ≤ w2.heap.size := by simpa using hsz2
      have hlt := HX.out.lt
      have hs1 := HB1.out.size
      have HB2 := Lib.hid hb2
      have HX2 := Lib.hid hX2
      clear hb2 hsz2 hX2
      go_wp2_with fail
      refine (HSC.out _).mono ?_
      rintro e w3 ⟨A3, c3, rfl, hown3, hb3⟩
      clear hown3
      have hX3 := (HX2.out.alloc (.cells #[.slice A bs.length c, .int .i64 q2, .int .i64 0] 51)).below hb3 (by have := HX2.out.lt; simp; omega)
      have hT3 : w3.heap[w2.heap.size]? = some (.cells #[.slice A bs.length c, .int .i64 q2, .int .i64 0] 51 (0, 0)) := by
        rw [hb3.block w2.heap.size (by simp)]; exact heap_alloc_new w2 _
      have r0 : w3.cell? ⟨w.heap.size, 0, none⟩ = some (.slice A bs.length c) := hX3.c0 0 _ rfl
      have r1 : w3.cell? ⟨w.heap.size, 1, none⟩ = some (.int .i64 p) := hX3.c0 1 _ rfl
      have r2 : w3.cell? ⟨w.heap.size, 2, none⟩ = some (.int .i64 k) := hX3.c0 2 _ rfl
      have fr0 : ∀ j, w3.frozen? ⟨w.heap.size, j, none⟩ = false := fun j => hX3.f0 j
      have d0 : w3.cell? ⟨w.heap.size + 1, 0, none⟩ = some (.slice none 0 0) := hX3.c1 0 _ rfl
      have d1 : w3.cell? ⟨w.heap.size + 1, 1, none⟩ = some (.int .i64 0) := hX3.c1 1 _ rfl
      have d2 : w3.cell? ⟨w.heap.size + 1, 2, none⟩ = some (.int .i64 0) := hX3.c1 2 _ rfl
      have fr1 : ∀ j, w3.frozen? ⟨w.heap.size + 1, j, none⟩ = false := fun j => hX3.f1 j
      have t0 : w3.cell? ⟨w2.heap.size, 0, none⟩ = some (.slice A bs.length c) := cell_of_row _ w2.heap.size 0 _ _ _ hT3
      have t1 : w3.cell? ⟨w2.heap.size, 1, none⟩ = some (.int .i64 q2) := cell_of_row _ w2.heap.size 1 _ _ _ hT3
      have t2 : w3.cell? ⟨w2.heap.size, 2, none⟩ = some (.int .i64 0) := cell_of_row _ w2.heap.size 2 _ _ _ hT3
      have hne0 : w.heap.size ≠ w2.heap.size := by omega
      have hne1 : w.heap.size + 1 ≠ w2.heap.size := by omega
      have HB3 := Lib.hid hb3
      have HQ2 := Lib.hid hqd2
      clear hb3 hX3 hT3 hqd2
      go_wp2_with fail
      go_region
      all_goals go_wp2
      all_goals (
        refine bodyPost_ret (v := .tuple #[.int .u64 0, .agg #[.slice A bs.length c, .int .i64 (p : Int), .int .i64 2]]) (by simp [results, Try.results54, go_sem, d0, d1, d2]) rfl ⟨⟨p, rfl, hp, fun h => absurd h (by decide)⟩, ?_⟩
        have hb1 := ((HB1.out.alloc hs1 (.cells #[.slice A bs.length c, .int .i64 q, .int .i64 0] 51)).trans (HB2.out.mono (by simp; omega))).alloc (by omega) (.cells #[.slice A bs.length c, .int .i64 q2, .int .i64 0] 51)
        have hb2' := hb1.trans (HB3.out.mono (by simp; omega))
        exact ((((hb2'.setCell (Nat.le_refl _) _).setCell (by simp) _).setCell (by simp) _).setCell (by simp) _).drew)
    · have hsl : ((sizeB m).length : Int) = 5 := by rw [HSL.out]; exact c2
      rw [if_pos rfl]
      clear c2
      go_enter Try.func54, Try.ntmps54
      go_wp2_with fail
      refine (HN.out _ _).mono ?_
      rintro e w1 ⟨⟨q, rfl, hq, hqd⟩, hb⟩
      have hX := (Boxes.two w #[.slice A bs.length c, .int .i64 p, .int .i64 k] #[.slice none 0 0, .int .i64 0, .int .i64 0]).below hb (by simp)
      have hwb : Below w.heap.size w w1 := (((Below.refl _ w).alloc (Nat.le_refl _) _).alloc (by simp) _).trans (hb.mono (by simp; omega))
      have HB1 := Lib.hid hwb
      have HX := Lib.hid hX
      have HQD := Lib.hid hqd
      clear hb hX hwb hqd
      go_wp2_with fail
      refine (HN2.out q hq HQD.out w1 (HB1.out.mono hB) _).mono ?_
      rintro e w2 ⟨⟨q2, rfl, hq2, hqd2⟩, hb2⟩
      have hX2 := (HX.out.alloc (.cells #[.slice A bs.length c, .int .i64 q, .int .i64 0] 51)).below hb2 (by have := HX.out.lt; simp; omega)
      have hsz2 := hb2.size
      have hs2 : w1.heap.size + 1 ≤ w2.heap.size := by simpa using hsz2
      have hlt := HX.out.lt
      have hs1 := HB1.out.size
      have HB2 := Lib.hid hb2
      have HX2 := Lib.hid hX2
      clear hb2 hsz2 hX2
      go_wp2_with fail
      refine (HSC.out _).mono ?_
      rintro e w3 ⟨A3, c3, rfl, hown3, hb3⟩
      clear hown3
      have hX3 := (HX2.out.alloc (.cells #[.slice A bs.length c, .int .i64 q2, .int .i64 0] 51)).below hb3 (by have := HX2.out.lt; simp; omega)
      have hT3 : w3.heap[w2.heap.size]? = some (.cells #[.slice A bs.length c, .int .i64 q2, .int .i64 0] 51 (0, 0)) := by
        rw [hb3.block w2.heap.size (by simp)]; exact heap_alloc_new w2 _
      have r0 : w3.cell? ⟨w.heap.size, 0, none⟩ = some (.slice A bs.length c) := hX3.c0 0 _ rfl
      have r1 : w3.cell? ⟨w.heap.size, 1, none⟩ = some (.int .i64 p) := hX3.c0 1 _ rfl
      have r2 : w3.cell? ⟨w.heap.size, 2, none⟩ = some (.int .i64 k) := hX3.c0 2 _ rfl
      have fr0 : ∀ j, w3.frozen? ⟨w.heap.size, j, none⟩ = false := fun j => hX3.f0 j
      have d0 : w3.cell? ⟨w.heap.size + 1, 0, none⟩ = some (.slice none 0 0) := hX3.c1 0 _ rfl
      have d1 : w3.cell? ⟨w.heap.size + 1, 1, none⟩ = some (.int .i64 0) := hX3.c1 1 _ rfl
      have d2 : w3.cell? ⟨w.heap.size + 1, 2, none⟩ = some (.int .i64 0) := hX3.c1 2 _ rfl
      have fr1 : ∀ j, w3.frozen? ⟨w.heap.size + 1, j, none⟩ = false := fun j => hX3.f1 j
      have t0 : w3.cell? ⟨w2.heap.size, 0, none⟩ = some (.slice A bs.length c) := cell_of_row _ w2.heap.size 0 _ _ _ hT3
      have t1 : w3.cell? ⟨w2.heap.size, 1, none⟩ = some (.int .i64 q2) := cell_of_row _ w2.heap.size 1 _ _ _ hT3
      have t2 : w3.cell? ⟨w2.heap.size, 2, none⟩ = some (.int .i64 0) := cell_of_row _ w2.heap.size 2 _ _ _ hT3
      have hne0 : w.heap.size ≠ w2.heap.size := by omega
      have hne1 : w.heap.size + 1 ≠ w2.heap.size := by omega
      have HB3 := Lib.hid hb3
      have HQ2 := Lib.hid hqd2
      clear hb3 hX3 hT3 hqd2
      go_wp2_with fail
      go_region
      all_goals go_wp2
      all_goals (
        refine bodyPost_ret (v := .tuple #[.int .u64 m, .agg #[.slice A bs.length c, .int .i64 (q2 : Int), .int .i64 0]]) (by simp [results, Try.results54, go_sem, d0, d1, d2]) rfl ⟨⟨q2, rfl, hq2, fun _ => HQ2.out⟩, ?_⟩
        have hb1 := ((HB1.out.alloc hs1 (.cells #[.slice A bs.length c, .int .i64 q, .int .i64 0] 51)).trans (HB2.out.mono (by simp; omega))).alloc (by omega) (.cells #[.slice A bs.length c, .int .i64 q2, .int .i64 0] 51)
        have hb2' := hb1.trans (HB3.out.mono (by simp; omega))
        exact (((hb2'.setCell (by simp) _).setCell (by simp) _).setCell (by simp) _).drew)
  · rcases hcase with ⟨c1, rfl⟩ | ⟨rfl, c2, rfl⟩ | ⟨rfl, c2, c3, rfl⟩ | ⟨rfl, c2, c3, rfl⟩
    · have c1b : (L == 0) = false := by simp [c1]
      have c1n : (L != 0) = true := by simp [c1]
      rw [if_neg c1]
      have HC := Lib.hid c1
      clear c1
      go_enter Try.func54, Try.ntmps54
      go_wp2_with fail
      refine (HN.out _ _).mono ?_
      rintro e w1 ⟨⟨q, rfl, hq, hqd⟩, hb⟩
      have hX := (Boxes.two w #[.slice A bs.length c, .int .i64 p, .int .i64 k] #[.slice none 0 0, .int .i64 0, .int .i64 0]).below hb (by simp)
      have hwb : Below w.heap.size w w1 := (((Below.refl _ w).alloc (Nat.le_refl _) _).alloc (by simp) _).trans (hb.mono (by simp; omega))
      have HB1 := Lib.hid hwb
      have HX := Lib.hid hX
      have HQD := Lib.hid hqd
      clear hb hX hwb hqd
      go_wp2_with fail
      refine (HN2.out q hq HQD.out w1 (HB1.out.mono hB) _).mono ?_
      rintro e w2 ⟨⟨q2, rfl, hq2, hqd2⟩, hb2⟩
      have hX2 := (HX.out.alloc (.cells #[.slice A bs.length c, .int .i64 q, .int .i64 0] 51)).below hb2 (by have := HX.out.lt; simp; omega)
      have hsz2 := hb2.size
      have hs2 : w1.heap.size + 1 ≤ w2.heap.size := by simpa using hsz2
      have hlt := HX.out.lt
      have hs1 := HB1.out.size
      have HB2 := Lib.hid hb2
      have HX2 := Lib.hid hX2
      clear hb2 hsz2 hX2
      have r0 : ∀ o, (w2.alloc o).cell? ⟨w.heap.size, 0, none⟩ = some (.slice A bs.length c) := fun o => (HX2.out.alloc o).c0 0 _ rfl
      have r1 : ∀ o, (w2.alloc o).cell? ⟨w.heap.size, 1, none⟩ = some (.int .i64 p) := fun o => (HX2.out.alloc o).c0 1 _ rfl
      have r2 : ∀ o, (w2.alloc o).cell? ⟨w.heap.size, 2, none⟩ = some (.int .i64 k) := fun o => (HX2.out.alloc o).c0 2 _ rfl
      have fr0 : ∀ o j, (w2.alloc o).frozen? ⟨w.heap.size, j, none⟩ = false := fun o j => (HX2.out.alloc o).f0 j
      have d0 : ∀ o, (w2.alloc o).cell? ⟨w.heap.size + 1, 0, none⟩ = some (.slice none 0 0) := fun o => (HX2.out.alloc o).c1 0 _ rfl
      have d1 : ∀ o, (w2.alloc o).cell? ⟨w.heap.size + 1, 1, none⟩ = some (.int .i64 0) := fun o => (HX2.out.alloc o).c1 1 _ rfl
      have d2 : ∀ o, (w2.alloc o).cell? ⟨w.heap.size + 1, 2, none⟩ = some (.int .i64 0) := fun o => (HX2.out.alloc o).c1 2 _ rfl
      have fr1 : ∀ o j, (w2.alloc o).frozen? ⟨w.heap.size + 1, j, none⟩ = false := fun o j => (HX2.out.alloc o).f1 j
      have hne0 : w.heap.size ≠ w2.heap.size := by omega
      have hne1 : w.heap.size + 1 ≠ w2.heap.size := by omega
      go_wp2_with fail
      go_region
      all_goals go_wp2
      all_goals (
        refine bodyPost_ret (v := .tuple #[.int .u64 0, .agg #[.slice A bs.length c, .int .i64 (p : Int), .int .i64 L]]) (by simp [results, Try.results54, go_sem, d0, d1, d2]) rfl ⟨⟨p, rfl, hp, fun h => absurd h HC.out⟩, ?_⟩
        have hb1 := ((HB1.out.alloc hs1 (.cells #[.slice A bs.length c, .int .i64 q, .int .i64 0] 51)).trans (HB2.out.mono (by simp; omega))).alloc (by omega) (.cells #[.slice A bs.length c, .int .i64 q2, .int .i64 L] 51)
        exact ((((hb1.setCell (Nat.le_refl _) _).setCell (by simp) _).setCell (by simp) _).setCell (by simp) _).drew)
    · have hsl : (((sizeB m).length : Int) != 9) = true := by rw [HSL.out]; simp; exact c2
      rw [if_neg (by decide)]
      clear c2
      go_enter Try.func54, Try.ntmps54
      go_wp2_with fail
      refine (HN.out _ _).mono ?_
      rintro e w1 ⟨⟨q, rfl, hq, hqd⟩, hb⟩
      have hX := (Boxes.two w #[.slice A bs.length c, .int .i64 p, .int .i64 k] #[.slice none 0 0, .int .i64 0, .int .i64 0]).below hb (by simp)
      have hwb : Below w.heap.size w w1 := (((Below.refl _ w).alloc (Nat.le_refl _) _).alloc (by simp) _).trans (hb.mono (by simp; omega))
      have HB1 := Lib.hid hwb
      have HX := Lib.hid hX
      have HQD := Lib.hid hqd
      clear hb hX hwb hqd
      go_wp2_with fail
      refine (HN2.out q hq HQD.out w1 (HB1.out.mono hB) _).mono ?_
      rintro e w2 ⟨⟨q2, rfl, hq2, hqd2⟩, hb2⟩
      have hX2 := (HX.out.alloc (.cells #[.slice A bs.length c, .int .i64 q, .int .i64 0] 51)).below hb2 (by have := HX.out.lt; simp; omega)
      have hsz2 := hb2.size
      have hs2 : w1.heap.size + 1 ≤ w2.heap.size := by simpa using hsz2
      have hlt := HX.out.lt
      have hs1 := HB1.out.size
      have HB2 := Lib.hid hb2
      have HX2 := Lib.hid hX2
      clear hb2 hsz2 hX2
      go_wp2_with fail
      refine (HSC.out _).mono ?_
      rintro e w3 ⟨A3, c3, rfl, hown3, hb3⟩
      clear hown3
      have hX3 := (HX2.out.alloc (.cells #[.slice A bs.length c, .int .i64 q2, .int .i64 0] 51)).below hb3 (by have := HX2.out.lt; simp; omega)
      have hT3 : w3.heap[w2.heap.size]? = some (.cells #[.slice A bs.length c, .int .i64 q2, .int .i64 0] 51 (0, 0)) := by
        rw [hb3.block w2.heap.size (by simp)]; exact heap_alloc_new w2 _
      have r0 : w3.cell? ⟨w.heap.size, 0, none⟩ = some (.slice A bs.length c) := hX3.c0 0 _ rfl
      have r1 : w3.cell? ⟨w.heap.size, 1, none⟩ = some (.int .i64 p) := hX3.c0 1 _ rfl
      have r2 : w3.cell? ⟨w.heap.size, 2, none⟩ = some (.int .i64 k) := hX3.c0 2 _ rfl
      have fr0 : ∀ j, w3.frozen? ⟨w.heap.size, j, none⟩ = false := fun j => hX3.f0 j
      have d0 : w3.cell? ⟨w.heap.size + 1, 0, none⟩ = some (.slice none 0 0) := hX3.c1 0 _ rfl
      have d1 : w3.cell? ⟨w.heap.size + 1, 1, none⟩ = some (.int .i64 0) := hX3.c1 1 _ rfl
      have d2 : w3.cell? ⟨w.heap.size + 1, 2, none⟩ = some (.int .i64 0) := hX3.c1 2 _ rfl
      have fr1 : ∀ j, w3.frozen? ⟨w.heap.size + 1, j, none⟩ = false := fun j => hX3.f1 j
      have t0 : w3.cell? ⟨w2.heap.size, 0, none⟩ = some (.slice A bs.length c) := cell_of_row _ w2.heap.size 0 _ _ _ hT3
      have t1 : w3.cell? ⟨w2.heap.size, 1, none⟩ = some (.int .i64 q2) := cell_of_row _ w2.heap.size 1 _ _ _ hT3
      have t2 : w3.cell? ⟨w2.heap.size, 2, none⟩ = some (.int .i64 0) := cell_of_row _ w2.heap.size 2 _ _ _ hT3
      have hne0 : w.heap.size ≠ w2.heap.size := by omega
      have hne1 : w.heap.size + 1 ≠ w2.heap.size := by omega
      have HB3 := Lib.hid hb3
      have HQ2 := Lib.hid hqd2
      clear hb3 hX3 hT3 hqd2
      go_wp2_with fail
      go_region
      all_goals go_wp2
      all_goals (
        refine bodyPost_ret (v := .tuple #[.int .u64 0, .agg #[.slice A bs.length c, .int .i64 (p : Int), .int .i64 3]]) (by simp [results, Try.results54, go_sem, d0, d1, d2]) rfl ⟨⟨p, rfl, hp, fun h => absurd h (by decide)⟩, ?_⟩
        have hb1 := ((HB1.out.alloc hs1 (.cells #[.slice A bs.length c, .int .i64 q, .int .i64 0] 51)).trans (HB2.out.mono (by simp; omega))).alloc (by omega) (.cells #[.slice A bs.length c, .int .i64 q2, .int .i64 0] 51)
        have hb2' := hb1.trans (HB3.out.mono (by simp; omega))
        exact ((((hb2'.setCell (Nat.le_refl _) _).setCell (by simp) _).setCell (by simp) _).setCell (by simp) _).drew)
    · have hsl : ((sizeB m).length : Int) = 9 := by rw [HSL.out]; exact c2
      rw [if_neg (by decide)]
      clear c2
      go_enter Try.func54, Try.ntmps54
      go_wp2_with fail
      refine (HN.out _ _).mono ?_
      rintro e w1 ⟨⟨q, rfl, hq, hqd⟩, hb⟩
      have hX := (Boxes.two w #[.slice A bs.length c, .int .i64 p, .int .i64 k] #[.slice none 0 0, .int .i64 0, .int .i64 0]).below hb (by simp)
      have hwb : Below w.heap.size w w1 := (((Below.refl _ w).alloc (Nat.le_refl _) _).alloc (by simp) _).trans (hb.mono (by simp; omega))
      have HB1 := Lib.hid hwb
      have HX := Lib.hid hX
      have HQD := Lib.hid hqd
      clear hb hX hwb hqd
      go_wp2_with fail
      refine (HN2.out q hq HQD.out w1 (HB1.out.mono hB) _).mono ?_
      rintro e w2 ⟨⟨q2, rfl, hq2, hqd2⟩, hb2⟩
      have hX2 := (HX.out.alloc (.cells #[.slice A bs.length c, .int .i64 q, .int .i64 0] 51)).below hb2 (by have := HX.out.lt; simp; omega)
      have hsz2 := hb2.size
      have hs2 : w1.heap.size + 1 ≤ w2.heap.size := by simpa using hsz2
      have hlt := HX.out.lt
      have hs1 := HB1.out.size
      have HB2 := Lib.hid hb2
      have HX2 := Lib.hid hX2
      clear hb2 hsz2 hX2
      go_wp2_with fail
      refine (HSC.out _).mono ?_
      rintro e w3 ⟨A3, c3, rfl, hown3, hb3⟩
      clear hown3
      have hX3 := (HX2.out.alloc (.cells #[.slice A bs.length c, .int .i64 q2, .int .i64 0] 51)).below hb3 (by have := HX2.out.lt; simp; omega)
      have hT3 : w3.heap[w2.heap.size]? = some (.cells #[.slice A bs.length c, .int .i64 q2, .int .i64 0] 51 (0, 0)) := by
        rw [hb3.block w2.heap.size (by simp)]; exact heap_alloc_new w2 _
      have r0 : w3.cell? ⟨w.heap.size, 0, none⟩ = some (.slice A bs.length c) := hX3.c0 0 _ rfl
      have r1 : w3.cell? ⟨w.heap.size, 1, none⟩ = some (.int .i64 p) := hX3.c0 1 _ rfl
      have r2 : w3.cell? ⟨w.heap.size, 2, none⟩ = some (.int .i64 k) := hX3.c0 2 _ rfl
      have fr0 : ∀ j, w3.frozen? ⟨w.heap.size, j, none⟩ = false := fun j => hX3.f0 j
      have d0 : w3.cell? ⟨w.heap.size + 1, 0, none⟩ = some (.slice none 0 0) := hX3.c1 0 _ rfl
      have d1 : w3.cell? ⟨w.heap.size + 1, 1, none⟩ = some (.int .i64 0) := hX3.c1 1 _ rfl
      have d2 : w3.cell? ⟨w.heap.size + 1, 2, none⟩ = some (.int .i64 0) := hX3.c1 2 _ rfl
      have fr1 : ∀ j, w3.frozen? ⟨w.heap.size + 1, j, none⟩ = false := fun j => hX3.f1 j
      have t0 : w3.cell? ⟨w2.heap.size, 0, none⟩ = some (.slice A bs.length c) := cell_of_row _ w2.heap.size 0 _ _ _ hT3
      have t1 : w3.cell? ⟨w2.heap.size, 1, none⟩ = some (.int .i64 q2) := cell_of_row _ w2.heap.size 1 _ _ _ hT3
      have t2 : w3.cell? ⟨w2.heap.size, 2, none⟩ = some (.int .i64 0) := cell_of_row _ w2.heap.size 2 _ _ _ hT3
      have hne0 : w.heap.size ≠ w2.heap.size := by omega
      have hne1 : w.heap.size + 1 ≠ w2.heap.size := by omega
      have HB3 := Lib.hid hb3
      have HQ2 := Lib.hid hqd2
      clear hb3 hX3 hT3 hqd2
      go_wp2_with fail
      go_region
      all_goals go_wp2
      all_goals (
        refine bodyPost_ret (v := .tuple #[.int .u64 0, .agg #[.slice A bs.length c, .int .i64 (p : Int), .int .i64 2]]) (by simp [results, Try.results54, go_sem, d0, d1, d2]) rfl ⟨⟨p, rfl, hp, fun h => absurd h (by decide)⟩, ?_⟩
        have hb1 := ((HB1.out.alloc hs1 (.cells #[.slice A bs.length c, .int .i64 q, .int .i64 0] 51)).trans (HB2.out.mono (by simp; omega))).alloc (by omega) (.cells #[.slice A bs.length c, .int .i64 q2, .int .i64 0] 51)
        have hb2' := hb1.trans (HB3.out.mono (by simp; omega))
        exact ((((hb2'.setCell (Nat.le_refl _) _).setCell (by simp) _).setCell (by simp) _).setCell (by simp) _).drew)
    · have hsl : ((sizeB m).length : Int) = 9 := by rw [HSL.out]; exact c2
      rw [if_pos rfl]
      clear c2
      go_enter Try.func54, Try.ntmps54
      go_wp2_with fail
      refine (HN.out _ _).mono ?_
      rintro e w1 ⟨⟨q, rfl, hq, hqd⟩, hb⟩
      have hX := (Boxes.two w #[.slice A bs.length c, .int .i64 p, .int .i64 k] #[.slice none 0 0, .int .i64 0, .int .i64 0]).below hb (by simp)
      have hwb : Below w.heap.size w w1 := (((Below.refl _ w).alloc (Nat.le_refl _) _).alloc (by simp) _).trans (hb.mono (by simp; omega))
      have HB1 := Lib.hid hwb
      have HX := Lib.hid hX
      have HQD := Lib.hid hqd
      clear hb hX hwb hqd
      go_wp2_with fail
      refine (HN2.out q hq HQD.out w1 (HB1.out.mono hB) _).mono ?_
      rintro e w2 ⟨⟨q2, rfl, hq2, hqd2⟩, hb2⟩
      have hX2 := (HX.out.alloc (.cells #[.slice A bs.length c, .int .i64 q, .int .i64 0] 51)).below hb2 (by have := HX.out.lt; simp; omega)
      have hsz2 := hb2.size
      have hs2 : w1.heap.size + 1 ≤ w2.heap.size := by simpa using hsz2
      have hlt := HX.out.lt
      have hs1 := HB1.out.size
      have HB2 := Lib.hid hb2
      have HX2 := Lib.hid hX2
      clear hb2 hsz2 hX2
      go_wp2_with fail
      refine (HSC.out _).mono ?_
      rintro e w3 ⟨A3, c3, rfl, hown3, hb3⟩
      clear hown3
      have hX3 := (HX2.out.alloc (.cells #[.slice A bs.length c, .int .i64 q2, .int .i64 0] 51)).below hb3 (by have := HX2.out.lt; simp; omega)
      have hT3 : w3.heap[w2.heap.size]? = some (.cells #[.slice A bs.length c, .int .i64 q2, .int .i64 0] 51 (0, 0)) := by
        rw [hb3.block w2.heap.size (by simp)]; exact heap_alloc_new w2 _
      have r0 : w3.cell? ⟨w.heap.size, 0, none⟩ = some (.slice A bs.length c) := hX3.c0 0 _ rfl
      have r1 : w3.cell? ⟨w.heap.size, 1, none⟩ = some (.int .i64 p) := hX3.c0 1 _ rfl
      have r2 : w3.cell? ⟨w.heap.size, 2, none⟩ = some (.int .i64 k) := hX3.c0 2 _ rfl
      have fr0 : ∀ j, w3.frozen? ⟨w.heap.size, j, none⟩ = false := fun j => hX3.f0 j
      have d0 : w3.cell? ⟨w.heap.size + 1, 0, none⟩ = some (.slice none 0 0) := hX3.c1 0 _ rfl
      have d1 : w3.cell? ⟨w.heap.size + 1, 1, none⟩ = some (.int .i64 0) := hX3.c1 1 _ rfl
      have d2 : w3.cell? ⟨w.heap.size + 1, 2, none⟩ = some (.int .i64 0) := hX3.c1 2 _ rfl
      have fr1 : ∀ j, w3.frozen? ⟨w.heap.size + 1, j, none⟩ = false := fun j => hX3.f1 j
      have t0 : w3.cell? ⟨w2.heap.size, 0, none⟩ = some (.slice A bs.length c) := cell_of_row _ w2.heap.size 0 _ _ _ hT3
      have t1 : w3.cell? ⟨w2.heap.size, 1, none⟩ = some (.int .i64 q2) := cell_of_row _ w2.heap.size 1 _ _ _ hT3
      have t2 : w3.cell? ⟨w2.heap.size, 2, none⟩ = some (.int .i64 0) := cell_of_row _ w2.heap.size 2 _ _ _ hT3
      have hne0 : w.heap.size ≠ w2.heap.size := by omega
      have hne1 : w.heap.size + 1 ≠ w2.heap.size := by omega
      have HB3 := Lib.hid hb3
      have HQ2 := Lib.hid hqd2
      clear hb3 hX3 hT3 hqd2
      go_wp2_with fail
      go_region
      all_goals go_wp2
      all_goals (
        refine bodyPost_ret (v := .tuple #[.int .u64 m, .agg #[.slice A bs.length c, .int .i64 (q2 : Int), .int .i64 0]]) (by simp [results, Try.results54, go_sem, d0, d1, d2]) rfl ⟨⟨q2, rfl, hq2, fun _ => HQ2.out⟩, ?_⟩
        have hb1 := ((HB1.out.alloc hs1 (.cells #[.slice A bs.length c, .int .i64 q, .int .i64 0] 51)).trans (HB2.out.mono (by simp; omega))).alloc (by omega) (.cells #[.slice A bs.length c, .int .i64 q2, .int .i64 0] 51)
        have hb2' := hb1.trans (HB3.out.mono (by simp; omega))
        exact (((hb2'.setCell (by simp) _).setCell (by simp) _).setCell (by simp) _).drew)
end Go.Proofs.Ytelbcmcffjpdoaa
