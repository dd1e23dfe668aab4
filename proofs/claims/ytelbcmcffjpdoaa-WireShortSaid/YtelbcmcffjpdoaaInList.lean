/-
  The reference's reader: Compact and List. Conditions: sizes within the reach.
-/
import Derived.Test.YtelbcmcffjpdoaaInComp
namespace Go.Proofs.Ytelbcmcffjpdoaa
open Go.RowKit

theorem numR_val {n : Nat} {k : Int} {xs : List UInt8} (hn : n ≤ 8) : 0 ≤ (numR n k xs).1 ∧ (numR n k xs).1 ≤ 18446744073709551615 := by
  unfold numR
  split
  · exact ⟨by show (0 : Int) ≤ 0; omega, by show (0 : Int) ≤ _; omega⟩
  split
  · exact ⟨by show (0 : Int) ≤ 0; omega, by show (0 : Int) ≤ _; omega⟩
  · have h1 := val_bd (xs.take n)
    have h2 := val_le8 (xs := xs.take n) (by rw [List.length_take]; omega)
    exact ⟨h1.1, by show val (xs.take n) ≤ _; omega⟩
theorem numR_mark {k : Int} {xs : List UInt8} : (numR 1 k xs).1 ≤ 255 := by
  unfold numR
  split
  · show (0 : Int) ≤ 255; omega
  split
  · show (0 : Int) ≤ 255; omega
  · have h1 := (val_bd (xs.take 1)).2
    have h2 : ((256 ^ (xs.take 1).length : Nat) : Int) ≤ 256 := by
      have : (256 : Nat) ^ (xs.take 1).length ≤ 256 ^ 1 := Nat.pow_le_pow_right (by decide) (by rw [List.length_take]; omega)
      omega
    have h4 : ((256 ^ (xs.take 1).length : Nat) : Int) = (256 : Int) ^ (xs.take 1).length := Int.natCast_pow _ _
    show val (xs.take 1) ≤ 255
    omega
theorem numR_err {n : Nat} {k : Int} {xs : List UInt8} (h0 : 0 ≤ k) (h9 : k ≤ 9) : 0 ≤ (numR n k xs).2.1 ∧ (numR n k xs).2.1 ≤ 9 := by
  unfold numR
  split
  · exact ⟨h0, h9⟩
  split
  · exact ⟨by show (0 : Int) ≤ 4; omega, by show (4 : Int) ≤ 9; omega⟩
  · exact ⟨by show (0 : Int) ≤ 0; omega, by show (0 : Int) ≤ 9; omega⟩

theorem CompPost.congr {w w' : World} {x : Value} {bs : List UInt8} {R R' : Int × Int × List UInt8} {e : Ending} (h : CompPost w x bs R e w') (h1 : R'.1 = R.1) (h2 : R'.2.1 = R.2.1) (h3 : R.2.1 = 0 → R'.2.2 = R.2.2) : CompPost w x bs R' e w' := by
  obtain ⟨⟨q, he, hq, hd⟩, hb⟩ := h
  exact ⟨⟨q, by rw [h1, h2]; exact he, hq, fun hz => by rw [h3 (h2 ▸ hz)]; exact hd (h2 ▸ hz)⟩, hb⟩

theorem fcomp_any (B : Nat) (x : Value) (bs : List UInt8) (p : Nat) (k : Int) (w : World) (hx : Byt w B x bs) (hB : B ≤ w.heap.size) (hp : p ≤ bs.length) (hl : bs.length ≤ 60000) (hk0 : 0 ≤ k) (hk1 : k ≤ 9) :
    Calls Try.prog 54 #[inV x p k] w (CompPost w x bs (sizeR k (bs.drop p))) := by
  obtain ⟨xs, hxs⟩ : ∃ xs, xs = bs.drop p := ⟨_, rfl⟩
  by_cases hearly : (numR 1 k (bs.drop p)).2.1 ≠ 0 ∨ (numR 1 k (bs.drop p)).1 < 253
  · refine (fcomp_early B x bs p k w hx hB hp hl hk0 hk1 hearly).mono fun e w' h => h.congr ?_ ?_ ?_
    all_goals
      rw [← hxs] at hearly ⊢
      unfold sizeR sizeP
      unfold numR at hearly ⊢
      by_cases c1 : k ≠ 0
      · simp [c1]
      by_cases c2 : xs.length < 1
      · simp [c1, c2]
      · rw [if_neg c1, if_neg c2] at hearly
        have c3 : val (xs.take 1) < 253 := by rcases hearly with h | h; exact absurd rfl h; exact h
        simp [c1, c2, c3]
  · have h1 : (numR 1 k (bs.drop p)).2.1 = 0 := by
      by_cases h : (numR 1 k (bs.drop p)).2.1 = 0
      · exact h
      · exact absurd (.inl h) hearly
    have h2 : 253 ≤ (numR 1 k (bs.drop p)).1 := by
      rcases Int.lt_or_le (numR 1 k (bs.drop p)).1 253 with h | h
      · exact absurd (.inr h) hearly
      · exact h
    have hw := wd_bd (numR 1 k (bs.drop p)).1
    refine (fcomp_late B x bs p k w hx hB hp hl hk0 hk1 h1 h2 numR_mark _ rfl (numR_val hw.2) (numR_err (by omega) (by omega))).mono fun e w' h => h.congr ?_ ?_ ?_
    all_goals
      rw [← hxs] at h1 h2 ⊢
      have hk : k = 0 := by
        by_cases c1 : k = 0
        · exact c1
        · unfold numR at h1; rw [if_pos c1] at h1; exact h1
      subst hk
      have hlen : ¬ xs.length < 1 := fun c2 => by unfold numR at h1; rw [if_neg (by decide), if_pos c2] at h1; exact absurd (show (4 : Int) = 0 from h1) (by decide)
      have e1 : numR 1 0 xs = (val (xs.take 1), 0, xs.drop 1) := by unfold numR; rw [if_neg (by decide), if_neg hlen]
      rw [e1] at h2 ⊢
      dsimp only at h2 ⊢
      have e2 : sizeR 0 xs = (match (if (xs.drop 1).length < wd (val (xs.take 1)) then Except.error 4 else
          if sizeLen (val ((xs.drop 1).take (wd (val (xs.take 1))))) ≠ 1 + wd (val (xs.take 1)) then .error 3 else
          if val ((xs.drop 1).take (wd (val (xs.take 1)))) > 33554432 then .error 2 else
          .ok (val ((xs.drop 1).take (wd (val (xs.take 1)))), (xs.drop 1).drop (wd (val (xs.take 1)))) : Except Int (Int × List UInt8)) with
          | .error c => (0, c, xs) | .ok (n, ys) => (n, 0, ys)) := by
        unfold sizeR sizeP
        rw [if_neg (by decide), if_neg hlen, if_neg (by omega)]
        rfl
      rw [e2]
      obtain ⟨d, hd⟩ : ∃ d, d = wd (val (xs.take 1)) := ⟨_, rfl⟩
      rw [← hd]
      obtain ⟨T, hT⟩ : ∃ T, T = xs.drop 1 := ⟨_, rfl⟩
      rw [← hT]
      obtain ⟨V, hV⟩ : ∃ V, V = val (T.take d) := ⟨_, rfl⟩
      have eN : numR d 0 T = if T.length < d then (0, 4, T) else (V, 0, T.drop d) := by unfold numR; rw [if_neg (by decide), hV]
      rw [eN, ← hV]
      unfold lateR
      clear eN hV hT hd e1 e2 hlen h1 h2 hxs hearly
      by_cases c2 : T.length < d
      · rw [if_pos c2, if_pos c2]
        simp
      · rw [if_neg c2, if_neg c2]
        by_cases c3 : sizeLen V = (d : Int) + 1
        · have c3' : ¬ (sizeLen V ≠ 1 + (d : Int)) := by omega
          rw [if_neg c3']
          by_cases c4 : 33554432 < V
          · simp [c3, c4]
          · simp [c3, c4]
        · have c3' : (sizeLen V ≠ 1 + (d : Int)) := by omega
          rw [if_pos c3']
          simp [c3]

theorem sizeR_bd (k : Int) (xs : List UInt8) (h0 : 0 ≤ k) (h9 : k ≤ 9) : 0 ≤ (sizeR k xs).1 ∧ (sizeR k xs).1 ≤ 33554432 ∧ 0 ≤ (sizeR k xs).2.1 ∧ (sizeR k xs).2.1 ≤ 9 := by
  unfold sizeR
  split
  · exact ⟨by show (0 : Int) ≤ 0; omega, by show (0 : Int) ≤ _; omega, h0, h9⟩
  · have he : ∀ c, sizeP xs = .error c → 0 ≤ c ∧ c ≤ 9 := fun c h => by
      unfold sizeP at h
      repeat' split at h
      all_goals first | (injection h with h; omega) | cases h
    cases hs : sizeP xs with
    | error c => exact ⟨by show (0 : Int) ≤ 0; omega, by show (0 : Int) ≤ _; omega, (he c hs).1, (he c hs).2⟩
    | ok r =>
      obtain ⟨n, ys⟩ := r
      have := sizeP_bd hs
      exact ⟨this.1, this.2, by show (0 : Int) ≤ 0; omega, by show (0 : Int) ≤ 9; omega⟩

/-- What List answers. -/
def ListPost (w : World) (x : Value) (bs : List UInt8) (R : List UInt8 × Int × List UInt8) (e : Ending) (w' : World) : Prop :=
  (∃ z q, e = .returned (.tuple #[z, inV x q R.2.1]) ∧ Byt w' w'.heap.size z R.1 ∧ q ≤ bs.length ∧ (R.2.1 = 0 → bs.drop q = R.2.2)) ∧ Below w.heap.size w w'

theorem Byt.turned {w w' : World} {B g : Nat} {v : Value} {xs : List UInt8} (h : Byt w B v xs) (hg : ∀ o u, w.cell? ⟨g, o, none⟩ ≠ some (bv u)) (ht : ∀ b o, b ≠ g → w'.cell? ⟨b, o, none⟩ = w.cell? ⟨b, o, none⟩) : Byt w' B v xs := by
  obtain ⟨A, c, hv, hl, hm, hA, hx⟩ := h
  refine ⟨A, c, hv, hl, hm, hA, fun hne => ?_⟩
  obtain ⟨b, o, e, hb, hc⟩ := hx hne
  refine ⟨b, o, e, hb, fun j u hu => ?_⟩
  have hbg : b ≠ g := by rintro rfl; exact hg _ _ (hc j u hu)
  rw [ht _ _ hbg]
  exact hc j u hu
theorem Boxes.no1 {w : World} {a : Nat} {c0 : Array Value} {x y z : Value} (h : Boxes w a c0 #[x, y, z]) (hx : ∀ u, x ≠ bv u) (hy : ∀ u, y ≠ bv u) (hz : ∀ u, z ≠ bv u) : ∀ o u, w.cell? ⟨a + 1, o, none⟩ ≠ some (bv u) := fun o u e => by
  rw [cell_of_row _ (a + 1) o _ _ _ h.h1] at e
  rcases o with _ | _ | _ | o
  · exact hx u (by simpa using e)
  · exact hy u (by simpa using e)
  · exact hz u (by simpa using e)
  · simp at e
theorem slice_no {A : Option Addr} {n c : Nat} : ∀ u, Value.slice A n c ≠ bv u := fun _ h => by unfold bv at h; cases h
theorem i64_no {n : Int} : ∀ u, Value.int .i64 n ≠ bv u := fun _ h => by unfold bv at h; injection h with h; cases h

theorem Byt.eq {w : World} {n : Nat} {v : Value} {xs ys : List UInt8} (h : Byt w n v xs) (e : xs = ys) : Byt w n v ys := e ▸ h

theorem byt_stored {w : World} {a : Nat} {v : Value} {xs : List UInt8} (h : Byt w w.heap.size v xs) (hno : ∀ o u, w.cell? ⟨a + 1, o, none⟩ ≠ some (bv u)) (o : Obj) (u0 u1 u2 : Value) :
    Byt (((((w.alloc o).setCell ⟨a + 1, 0, none⟩ u0).setCell ⟨a + 1, 1, none⟩ u1).setCell ⟨a + 1, 2, none⟩ u2).drew) ((((w.alloc o).setCell ⟨a + 1, 0, none⟩ u0).setCell ⟨a + 1, 1, none⟩ u1).setCell ⟨a + 1, 2, none⟩ u2).drew.heap.size v xs := by
  have h1 : Byt (w.alloc o) w.heap.size v xs := h.below ((Below.refl _ w).alloc (Nat.le_refl _) o)
  have hs : ((((w.alloc o).setCell ⟨a + 1, 0, none⟩ u0).setCell ⟨a + 1, 1, none⟩ u1).setCell ⟨a + 1, 2, none⟩ u2).drew.heap.size = w.heap.size + 1 := by simp
  rw [hs]
  refine Byt.more ?_ (Nat.le_succ _)
  obtain ⟨A, c, hv, hl, hm, hA, hx⟩ := h
  refine ⟨A, c, hv, hl, hm, hA, fun hne => ?_⟩
  obtain ⟨b, q, e, hb, hc⟩ := hx hne
  refine ⟨b, q, e, hb, fun j u hu => ?_⟩
  have hbg : b ≠ a + 1 := by rintro rfl; exact hno _ _ (hc j u hu)
  obtain ⟨_, _, _, _, _, _, hx1⟩ := h1
  have hk : ((((w.alloc o).setCell ⟨a + 1, 0, none⟩ u0).setCell ⟨a + 1, 1, none⟩ u1).setCell ⟨a + 1, 2, none⟩ u2).drew.heap[b]? = w.heap[b]? := by
    show ((((w.alloc o).setCell ⟨a + 1, 0, none⟩ u0).setCell ⟨a + 1, 1, none⟩ u1).setCell ⟨a + 1, 2, none⟩ u2).heap[b]? = _
    rw [Below.heap_setCell _ _ _ _ (by exact hbg), Below.heap_setCell _ _ _ _ (by exact hbg), Below.heap_setCell _ _ _ _ (by exact hbg), Below.heap_alloc _ _ _ hb]
  rw [World.cell?_of_block (w := w) hk]
  exact hc j u hu

set_option maxRecDepth 100000 in
set_option maxHeartbeats 6400000 in
theorem flist_any (B : Nat) (x : Value) (bs : List UInt8) (p : Nat) (k most : Int) (w : World) (hx : Byt w B x bs) (hB : B ≤ w.heap.size) (hp : p ≤ bs.length) (hl : bs.length ≤ 60000) (hm0 : -5000 ≤ most) (hm1 : most ≤ 5000) (hk0 : 0 ≤ k) (hk1 : k ≤ 9) :
    Calls Try.prog 56 #[inV x p k, .int .i64 most] w (ListPost w x bs (listR most k (bs.drop p))) := by
  obtain ⟨A, c, rfl⟩ := hx.form
  have hcomp : ∀ o1 o2, Calls Try.prog 54 #[inV (.slice A bs.length c) p k] ((w.alloc o1).alloc o2) _ := fun o1 o2 =>
    fcomp_any B _ bs p k _ (hx.below (((Below.refl B w).alloc hB o1).alloc (by simp; omega) o2)) (by simp; omega) hp hl hk0 hk1
  have hLR : listR most k (bs.drop p) = if (sizeR k (bs.drop p)).2.1 ≠ 0 then ([], (sizeR k (bs.drop p)).2.1, (sizeR k (bs.drop p)).2.2) else
      if (sizeR k (bs.drop p)).1 > most then ([], 2, bs.drop p) else if (sizeR k (bs.drop p)).2.2.length < (sizeR k (bs.drop p)).1 then ([], 4, bs.drop p) else
      ((sizeR k (bs.drop p)).2.2.take (sizeR k (bs.drop p)).1.toNat, 0, (sizeR k (bs.drop p)).2.2.drop (sizeR k (bs.drop p)).1.toNat) := by
    unfold listR sizeR listP
    by_cases c1 : k ≠ 0
    · simp [c1]
    · rw [if_neg c1, if_neg c1]
      cases hs : sizeP (bs.drop p) with
      | error cc =>
        have hcc : cc ≠ 0 := fun h => by
          subst h
          unfold sizeP at hs
          repeat' split at hs
          all_goals first | (injection hs with hs; omega) | cases hs
        simp [hcc]
      | ok r =>
        obtain ⟨n, ys⟩ := r
        by_cases c2 : most < n
        · simp [c2]
        · by_cases c3 : (ys.length : Int) < n
          · simp [c2, c3]
          · simp [c2, c3]
  have hbd := sizeR_bd k (bs.drop p) hk0 hk1
  obtain ⟨R, hR⟩ : ∃ R, R = sizeR k (bs.drop p) := ⟨_, rfl⟩
  rw [← hR] at hLR hbd
  simp only [← hR] at hcomp
  obtain ⟨n, e1, ys⟩ := R
  dsimp only at hLR hbd
  obtain ⟨hn0, hn1, he0, he1⟩ := hbd
  rw [hLR]
  unfold CompPost inV at hcomp
  unfold inV
  dsimp only at hcomp
  have HC := Lib.hid hcomp
  have HX0 := Lib.hid hx
  clear hcomp hLR hR hx
  by_cases c1 : e1 = 0
  · subst c1
    rw [if_neg (by decide)]
    by_cases c2 : n > most
    · rw [if_pos c2]
      go_enter Try.func56, Try.ntmps56
      go_wp2_with fail
      refine (HC.out _ _).mono ?_
      rintro e w1 ⟨⟨q, rfl, hq, hqd⟩, hb⟩
      have hX := (Boxes.two w #[.slice A bs.length c, .int .i64 p, .int .i64 k] #[.slice none 0 0, .int .i64 0, .int .i64 0]).below hb (by simp)
      have hwb : Below w.heap.size w w1 := (((Below.refl _ w).alloc (Nat.le_refl _) _).alloc (by simp) _).trans (hb.mono (by simp; omega))
      have hs1 := hwb.size
      have hlt := hX.lt
      have HB1 := Lib.hid hwb
      have HX := Lib.hid hX
      have HQD := Lib.hid hqd
      clear hb hX hwb hqd
      have r0 : ∀ o, (w1.alloc o).cell? ⟨w.heap.size, 0, none⟩ = some (.slice A bs.length c) := fun o => (HX.out.alloc o).c0 0 _ rfl
      have r1 : ∀ o, (w1.alloc o).cell? ⟨w.heap.size, 1, none⟩ = some (.int .i64 p) := fun o => (HX.out.alloc o).c0 1 _ rfl
      have r2 : ∀ o, (w1.alloc o).cell? ⟨w.heap.size, 2, none⟩ = some (.int .i64 k) := fun o => (HX.out.alloc o).c0 2 _ rfl
      have fr0 : ∀ o j, (w1.alloc o).frozen? ⟨w.heap.size, j, none⟩ = false := fun o j => (HX.out.alloc o).f0 j
      have d0 : ∀ o, (w1.alloc o).cell? ⟨w.heap.size + 1, 0, none⟩ = some (.slice none 0 0) := fun o => (HX.out.alloc o).c1 0 _ rfl
      have d1 : ∀ o, (w1.alloc o).cell? ⟨w.heap.size + 1, 1, none⟩ = some (.int .i64 0) := fun o => (HX.out.alloc o).c1 1 _ rfl
      have d2 : ∀ o, (w1.alloc o).cell? ⟨w.heap.size + 1, 2, none⟩ = some (.int .i64 0) := fun o => (HX.out.alloc o).c1 2 _ rfl
      have fr1 : ∀ o j, (w1.alloc o).frozen? ⟨w.heap.size + 1, j, none⟩ = false := fun o j => (HX.out.alloc o).f1 j
      have hne0 : w.heap.size ≠ w1.heap.size := by omega
      have hne1 : w.heap.size + 1 ≠ w1.heap.size := by omega
      go_wp2_with fail
      go_region
      all_goals go_wp2
      all_goals (
        refine bodyPost_ret (v := .tuple #[.slice none 0 0, .agg #[.slice A bs.length c, .int .i64 (p : Int), .int .i64 2]]) (by simp [results, Try.results56, go_sem, d0, d1, d2]) rfl ⟨⟨.slice none 0 0, p, rfl, Byt.nil _ _, hp, fun h => absurd (show (2 : Int) = 0 from h) (by decide)⟩, ?_⟩
        have hb1 := HB1.out.alloc hs1 (.cells #[.slice A bs.length c, .int .i64 q, .int .i64 0] 51)
        exact ((((hb1.setCell (Nat.le_refl _) _).setCell (by simp) _).setCell (by simp) _).setCell (by simp) _).drew)
    rw [if_neg c2]
    have hraw : ∀ (q : Nat) (hq : q ≤ bs.length) (w1 : World) (hb : Below B w w1) (o : Obj), Calls Try.prog 55 #[.agg #[.slice A bs.length c, .int .i64 q, .int .i64 0], .int .i64 n] (w1.alloc o) _ := fun q hq w1 hb o =>
      fraw_any B _ bs q 0 n (w1.alloc o) (HX0.out.below (hb.alloc (Nat.le_trans hB hb.size) o)) (by have := hb.size; simp; omega) hq hl (by omega) (by omega) (by omega) (by omega)
    unfold inV at hraw
    have HR := Lib.hid hraw
    clear hraw
    by_cases c3 : (ys.length : Int) < n
    · rw [if_pos c3]
      go_enter Try.func56, Try.ntmps56
      go_wp2_with fail
      refine (HC.out _ _).mono ?_
      rintro e w1 ⟨⟨q, rfl, hq, hqd⟩, hb⟩
      have hX := (Boxes.two w #[.slice A bs.length c, .int .i64 p, .int .i64 k] #[.slice none 0 0, .int .i64 0, .int .i64 0]).below hb (by simp)
      have hwb : Below w.heap.size w w1 := (((Below.refl _ w).alloc (Nat.le_refl _) _).alloc (by simp) _).trans (hb.mono (by simp; omega))
      have hs1 := hwb.size
      have hlt := hX.lt
      have HB1 := Lib.hid hwb
      have HX := Lib.hid hX
      have HQD := Lib.hid hqd
      clear hb hX hwb hqd
      go_wp2_with fail
      refine (HR.out q hq w1 (HB1.out.mono hB) _).mono ?_
      rintro e w2 ⟨⟨z, q2, rfl, hz, hq2, hqd2⟩, hb2⟩
      have hX2 := (HX.out.alloc (.cells #[.slice A bs.length c, .int .i64 q, .int .i64 0] 51)).below hb2 (by simp; omega)
      have hsz2 := hb2.size
      have hs2 : w1.heap.size + 1 ≤ w2.heap.size := by simpa using hsz2
      rw [HQD.out (by first | rfl | trivial)] at hz hqd2 ⊢
      have hr : rawR n 0 ys = ([], 4, ys) := by unfold rawR; rw [if_neg (by decide), if_pos c3]
      rw [hr] at hz hqd2 ⊢
      clear hr hqd2
      obtain ⟨Z, cz, rfl⟩ := hz.form
      clear hz
      dsimp only
      have HB2 := Lib.hid hb2
      have HX2 := Lib.hid hX2
      clear hb2 hsz2 hX2
      have r0 : ∀ o, (w2.alloc o).cell? ⟨w.heap.size, 0, none⟩ = some (.slice A bs.length c) := fun o => (HX2.out.alloc o).c0 0 _ rfl
      have r1 : ∀ o, (w2.alloc o).cell? ⟨w.heap.size, 1, none⟩ = some (.int .i64 p) := fun o => (HX2.out.alloc o).c0 1 _ rfl
      have r2 : ∀ o, (w2.alloc o).cell? ⟨w.heap.size, 2, none⟩ = some (.int .i64 k) := fun o => (HX2.out.alloc o).c0 2 _ rfl
      have fr0 : ∀ o j, (w2.alloc o).frozen? ⟨w.heap.size, j, none⟩ = false := fun o j => (HX2.out.alloc o).f0 j
      have d0 : ∀ o, (w2.alloc o).cell? ⟨w.heap.size + 1, 0, none⟩ = some (.slice none 0 0) := fun o => (HX2.out.alloc o).c1 0 _ rfl
      have d1 : ∀ o, (w2.alloc o).cell? ⟨w.heap.size + 1, 1, none⟩ = some (.int .i64 0) := fun o => (HX2.out.alloc o).c1 1 _ rfl
      have d2 : ∀ o, (w2.alloc o).cell? ⟨w.heap.size + 1, 2, none⟩ = some (.int .i64 0) := fun o => (HX2.out.alloc o).c1 2 _ rfl
      have fr1 : ∀ o j, (w2.alloc o).frozen? ⟨w.heap.size + 1, j, none⟩ = false := fun o j => (HX2.out.alloc o).f1 j
      have hne0 : w.heap.size ≠ w2.heap.size := by omega
      have hne1 : w.heap.size + 1 ≠ w2.heap.size := by omega
      go_wp2_with fail
      go_region
      all_goals go_wp2
      all_goals (
        refine bodyPost_ret (v := .tuple #[.slice none 0 0, .agg #[.slice A bs.length c, .int .i64 (p : Int), .int .i64 4]]) (by simp [results, Try.results56, go_sem, d0, d1, d2]) rfl ⟨⟨.slice none 0 0, p, rfl, Byt.nil _ _, hp, fun h => absurd (show (4 : Int) = 0 from h) (by decide)⟩, ?_⟩
        have hb1 := ((HB1.out.alloc hs1 (.cells #[.slice A bs.length c, .int .i64 q, .int .i64 0] 51)).trans (HB2.out.mono (by simp; omega))).alloc (by omega) (.cells #[.slice A bs.length c, .int .i64 q2, .int .i64 4] 51)
        exact ((((hb1.setCell (Nat.le_refl _) _).setCell (by simp) _).setCell (by simp) _).setCell (by simp) _).drew)
    · rw [if_neg c3]
      go_enter Try.func56, Try.ntmps56
      go_wp2_with fail
      refine (HC.out _ _).mono ?_
      rintro e w1 ⟨⟨q, rfl, hq, hqd⟩, hb⟩
      have hX := (Boxes.two w #[.slice A bs.length c, .int .i64 p, .int .i64 k] #[.slice none 0 0, .int .i64 0, .int .i64 0]).below hb (by simp)
      have hwb : Below w.heap.size w w1 := (((Below.refl _ w).alloc (Nat.le_refl _) _).alloc (by simp) _).trans (hb.mono (by simp; omega))
      have hs1 := hwb.size
      have hlt := hX.lt
      have HB1 := Lib.hid hwb
      have HX := Lib.hid hX
      have HQD := Lib.hid hqd
      clear hb hX hwb hqd
      go_wp2_with fail
      refine (HR.out q hq w1 (HB1.out.mono hB) _).mono ?_
      rintro e w2 ⟨⟨z, q2, rfl, hz, hq2, hqd2⟩, hb2⟩
      have hX2 := (HX.out.alloc (.cells #[.slice A bs.length c, .int .i64 q, .int .i64 0] 51)).below hb2 (by simp; omega)
      have hsz2 := hb2.size
      have hs2 : w1.heap.size + 1 ≤ w2.heap.size := by simpa using hsz2
      rw [HQD.out (by first | rfl | trivial)] at hz hqd2 ⊢
      have hr : rawR n 0 ys = (ys.take n.toNat, 0, ys.drop n.toNat) := by unfold rawR; rw [if_neg (by decide), if_neg (by omega)]
      rw [hr] at hz hqd2 ⊢
      dsimp only at hz hqd2
      obtain ⟨zs, hzs⟩ : ∃ zs, zs = ys.take n.toNat := ⟨_, rfl⟩
      rw [← hzs] at hz ⊢
      obtain ⟨Z, cz, rfl⟩ := hz.form
      have hno := hX2.no1 slice_no i64_no i64_no
      have HZ := Lib.hid (And.intro hz hno)
      have HQ2 := Lib.hid hqd2
      have HZS := Lib.hid hzs
      clear hr hz hzs hno hqd2
      have HB2 := Lib.hid hb2
      have HX2 := Lib.hid hX2
      clear hb2 hsz2 hX2
      have r0 : ∀ o, (w2.alloc o).cell? ⟨w.heap.size, 0, none⟩ = some (.slice A bs.length c) := fun o => (HX2.out.alloc o).c0 0 _ rfl
      have r1 : ∀ o, (w2.alloc o).cell? ⟨w.heap.size, 1, none⟩ = some (.int .i64 p) := fun o => (HX2.out.alloc o).c0 1 _ rfl
      have r2 : ∀ o, (w2.alloc o).cell? ⟨w.heap.size, 2, none⟩ = some (.int .i64 k) := fun o => (HX2.out.alloc o).c0 2 _ rfl
      have fr0 : ∀ o j, (w2.alloc o).frozen? ⟨w.heap.size, j, none⟩ = false := fun o j => (HX2.out.alloc o).f0 j
      have d0 : ∀ o, (w2.alloc o).cell? ⟨w.heap.size + 1, 0, none⟩ = some (.slice none 0 0) := fun o => (HX2.out.alloc o).c1 0 _ rfl
      have d1 : ∀ o, (w2.alloc o).cell? ⟨w.heap.size + 1, 1, none⟩ = some (.int .i64 0) := fun o => (HX2.out.alloc o).c1 1 _ rfl
      have d2 : ∀ o, (w2.alloc o).cell? ⟨w.heap.size + 1, 2, none⟩ = some (.int .i64 0) := fun o => (HX2.out.alloc o).c1 2 _ rfl
      have fr1 : ∀ o j, (w2.alloc o).frozen? ⟨w.heap.size + 1, j, none⟩ = false := fun o j => (HX2.out.alloc o).f1 j
      have hne0 : w.heap.size ≠ w2.heap.size := by omega
      have hne1 : w.heap.size + 1 ≠ w2.heap.size := by omega
      go_wp2_with fail
      go_region
      all_goals go_wp2
      all_goals (
        refine bodyPost_ret (v := .tuple #[.slice Z zs.length cz, .agg #[.slice A bs.length c, .int .i64 (q2 : Int), .int .i64 0]]) (by simp [results, Try.results56, go_sem, d0, d1, d2]) rfl ⟨⟨.slice Z zs.length cz, q2, rfl, (byt_stored HZ.out.1 HZ.out.2 (.cells #[.slice A bs.length c, .int .i64 q2, .int .i64 0] 51) (.slice A bs.length c) (.int .i64 q2) (.int .i64 0)).eq HZS.out, hq2, fun _ => HQ2.out⟩, ?_⟩
        have hb1 := ((HB1.out.alloc hs1 (.cells #[.slice A bs.length c, .int .i64 q, .int .i64 0] 51)).trans (HB2.out.mono (by simp; omega))).alloc (by omega) (.cells #[.slice A bs.length c, .int .i64 q2, .int .i64 0] 51)
        exact (((hb1.setCell (by simp) _).setCell (by simp) _).setCell (by simp) _).drew)
  · rw [if_pos c1]
    go_enter Try.func56, Try.ntmps56
    go_wp2_with fail
    refine (HC.out _ _).mono ?_
    rintro e w1 ⟨⟨q, rfl, hq, hqd⟩, hb⟩
    have hX := (Boxes.two w #[.slice A bs.length c, .int .i64 p, .int .i64 k] #[.slice none 0 0, .int .i64 0, .int .i64 0]).below hb (by simp)
    have hwb : Below w.heap.size w w1 := (((Below.refl _ w).alloc (Nat.le_refl _) _).alloc (by simp) _).trans (hb.mono (by simp; omega))
    have hs1 := hwb.size
    have hlt := hX.lt
    have HB1 := Lib.hid hwb
    have HX := Lib.hid hX
    have HQD := Lib.hid hqd
    clear hb hX hwb hqd
    have r0 : ∀ o, (w1.alloc o).cell? ⟨w.heap.size, 0, none⟩ = some (.slice A bs.length c) := fun o => (HX.out.alloc o).c0 0 _ rfl
    have r1 : ∀ o, (w1.alloc o).cell? ⟨w.heap.size, 1, none⟩ = some (.int .i64 p) := fun o => (HX.out.alloc o).c0 1 _ rfl
    have r2 : ∀ o, (w1.alloc o).cell? ⟨w.heap.size, 2, none⟩ = some (.int .i64 k) := fun o => (HX.out.alloc o).c0 2 _ rfl
    have fr0 : ∀ o j, (w1.alloc o).frozen? ⟨w.heap.size, j, none⟩ = false := fun o j => (HX.out.alloc o).f0 j
    have d0 : ∀ o, (w1.alloc o).cell? ⟨w.heap.size + 1, 0, none⟩ = some (.slice none 0 0) := fun o => (HX.out.alloc o).c1 0 _ rfl
    have d1 : ∀ o, (w1.alloc o).cell? ⟨w.heap.size + 1, 1, none⟩ = some (.int .i64 0) := fun o => (HX.out.alloc o).c1 1 _ rfl
    have d2 : ∀ o, (w1.alloc o).cell? ⟨w.heap.size + 1, 2, none⟩ = some (.int .i64 0) := fun o => (HX.out.alloc o).c1 2 _ rfl
    have fr1 : ∀ o j, (w1.alloc o).frozen? ⟨w.heap.size + 1, j, none⟩ = false := fun o j => (HX.out.alloc o).f1 j
    have hne0 : w.heap.size ≠ w1.heap.size := by omega
    have hne1 : w.heap.size + 1 ≠ w1.heap.size := by omega
    have c1n : (e1 != 0) = true := by simp [c1]
    have HC1 := Lib.hid c1
    clear c1 hlt hs1
    go_wp2_with fail
    go_region
    all_goals go_wp2
    all_goals (
      refine bodyPost_ret (v := .tuple #[.slice none 0 0, .agg #[.slice A bs.length c, .int .i64 (q : Int), .int .i64 e1]]) (by simp [results, Try.results56, go_sem, d0, d1, d2]) rfl ⟨⟨.slice none 0 0, q, rfl, Byt.nil _ _, hq, fun h => absurd h HC1.out⟩, ?_⟩
      have hb1 := HB1.out.alloc HB1.out.size (.cells #[.slice A bs.length c, .int .i64 q, .int .i64 e1] 51)
      exact (((hb1.setCell (by simp) _).setCell (by simp) _).setCell (by simp) _).drew)
end Go.Proofs.Ytelbcmcffjpdoaa
