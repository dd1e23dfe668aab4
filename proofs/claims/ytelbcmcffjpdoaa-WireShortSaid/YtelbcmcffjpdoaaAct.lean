/-
  An act read of both: strongboxlaw01.read. Conditions: sizes within the reach.
-/
import Derived.Test.YtelbcmcffjpdoaaInList
namespace Go.Proofs.Ytelbcmcffjpdoaa
open Go.RowKit

/-- Both answered the same; the reference's reader stands at q, the other has ys left; where there is no error these are the same bytes. -/
def ReadPost (w : World) (r : Nat) (x : Value) (bs : List UInt8) (R : Int × List UInt8) (e : Ending) (w' : World) : Prop :=
  ∃ q, e = .returned (.tuple #[inV x q R.1, .bool true]) ∧ q ≤ bs.length ∧ (R.1 = 0 → bs.drop q = R.2) ∧ ∃ v', Cu w' r r v' R.1 R.2 ∧ Turns (fun i => i = r) w w'

theorem numR_tie {m : Nat} {k : Int} {xs ys : List UInt8} (h : k = 0 → ys = xs) : (numR m k ys).1 = (numR m k xs).1 ∧ (numR m k ys).2.1 = (numR m k xs).2.1 ∧ ((numR m k xs).2.1 = 0 → (numR m k ys).2.2 = (numR m k xs).2.2) := by
  by_cases hk : k = 0
  · rw [h hk]
    exact ⟨rfl, rfl, fun _ => rfl⟩
  · unfold numR
    rw [if_pos hk, if_pos hk]
    exact ⟨rfl, rfl, fun h0 => absurd h0 hk⟩

theorem sizeR_tie {k : Int} {xs ys : List UInt8} (h : k = 0 → ys = xs) : (sizeR k ys).1 = (sizeR k xs).1 ∧ (sizeR k ys).2.1 = (sizeR k xs).2.1 ∧ ((sizeR k xs).2.1 = 0 → (sizeR k ys).2.2 = (sizeR k xs).2.2) := by
  by_cases hk : k = 0
  · rw [h hk]
    exact ⟨rfl, rfl, fun _ => rfl⟩
  · unfold sizeR
    rw [if_pos hk, if_pos hk]
    exact ⟨rfl, rfl, fun h0 => absurd h0 hk⟩

theorem Cu.box {w w' : World} {r B g : Nat} {v : Value} {k : Int} {xs : List UInt8} (h : Cu w r B v k xs) (ht : Turns (fun i => i = g) w w') (hr : r < g) (hB : B ≤ g) : Cu w' r B v k xs :=
  h.turns ht (by omega) (fun i hi => by omega)

def NumPost (w : World) (x : Value) (bs : List UInt8) (Z K : Int) (ys : List UInt8) (e : Ending) (w' : World) : Prop :=
  (∃ q, e = .returned (.tuple #[.int .u64 Z, .agg #[x, .int .i64 ((q : Nat) : Int), .int .i64 K]]) ∧ q ≤ bs.length ∧ (K = 0 → bs.drop q = ys)) ∧ Below w.heap.size w w'

theorem third_box (w : World) (o1 o2 o3 : Obj) : (((w.alloc o1).alloc o2).alloc o3).heap[w.heap.size + 2]? = some o3 := by
  have h := heap_alloc_new ((w.alloc o1).alloc o2) o3
  rwa [show ((w.alloc o1).alloc o2).heap.size = w.heap.size + 2 by simp] at h

/-- What the load and the stores behind the method's call meet. -/
theorem act_facts {w w1 w4 : World} {r : Nat} {x y z : Value} (hs : w.heap.size + 3 ≤ w1.heap.size) (hr : r < w.heap.size) (h6 : ∀ o, (w1.alloc o).heap[w.heap.size + 2]? = some (.cells #[.slice none 0 0, .int .i64 0, .int .i64 0] 51 (0, 0)))
    (ht : Turns (fun i => i = r) (w1.alloc (.cells #[x, y, z] 51)).drew w4) :
    w4.cell? ⟨w1.heap.size, 0, none⟩ = some x ∧ w4.cell? ⟨w1.heap.size, 1, none⟩ = some y ∧ w4.cell? ⟨w1.heap.size, 2, none⟩ = some z ∧
    w4.cell? ⟨w.heap.size + 2, 0, none⟩ = some (.slice none 0 0) ∧ w4.cell? ⟨w.heap.size + 2, 1, none⟩ = some (.int .i64 0) ∧ w4.cell? ⟨w.heap.size + 2, 2, none⟩ = some (.int .i64 0) ∧
    (∀ j, w4.frozen? ⟨w.heap.size + 2, j, none⟩ = false) ∧ w.heap.size + 2 ≠ w1.heap.size := by
  have a : w4.heap[w1.heap.size]? = some (.cells #[x, y, z] 51 (0, 0)) := (ht.block w1.heap.size (by show _ < (w1.alloc _).heap.size; simp) (by omega)).trans (heap_alloc_new w1 _)
  have b : w4.heap[w.heap.size + 2]? = some (.cells #[.slice none 0 0, .int .i64 0, .int .i64 0] 51 (0, 0)) := (ht.block (w.heap.size + 2) (by show _ < (w1.alloc _).heap.size; simp; omega) (by omega)).trans (h6 _)
  exact ⟨cell_of_row _ _ 0 _ _ _ a, cell_of_row _ _ 1 _ _ _ a, cell_of_row _ _ 2 _ _ _ a, cell_of_row _ _ 0 _ _ _ b, cell_of_row _ _ 1 _ _ _ b, cell_of_row _ _ 2 _ _ _ b, fun j => by simp [World.frozen?, b], by omega⟩

theorem act_end {w w1 w4 : World} {r : Nat} {K : Int} {ys : List UInt8} {v4 x y z : Value} {o : Obj} (_hs : w.heap.size + 3 ≤ w1.heap.size) (hr : r < w.heap.size) (hb : Below w.heap.size w w1) (hc : Cu w4 r r v4 K ys) (ht : Turns (fun i => i = r) (w1.alloc o).drew w4) :
    Cu (((w4.setCell ⟨w.heap.size + 2, 0, none⟩ x).setCell ⟨w.heap.size + 2, 1, none⟩ y).setCell ⟨w.heap.size + 2, 2, none⟩ z) r r v4 K ys ∧ Turns (fun i => i = r) w (((w4.setCell ⟨w.heap.size + 2, 0, none⟩ x).setCell ⟨w.heap.size + 2, 1, none⟩ y).setCell ⟨w.heap.size + 2, 2, none⟩ z) := by
  have t : Turns (fun i => i = w.heap.size + 2) w4 (((w4.setCell ⟨w.heap.size + 2, 0, none⟩ x).setCell ⟨w.heap.size + 2, 1, none⟩ y).setCell ⟨w.heap.size + 2, 2, none⟩ z) :=
    (((Turns.refl (fun i => i = w.heap.size + 2) w4).setCell (p := ⟨w.heap.size + 2, 0, none⟩) (fun _ => rfl) _).setCell (p := ⟨w.heap.size + 2, 1, none⟩) (fun _ => rfl) _).setCell (p := ⟨w.heap.size + 2, 2, none⟩) (fun _ => rfl) _
  refine ⟨hc.box t (by omega) (by omega), ?_⟩
  have t0 : Turns (fun i => i = r) w w4 := (((Turns.of_below hb).alloc o).drew).trans ht (fun _ _ h => h)
  exact t0.trans t (fun i hi h => by omega)

set_option maxRecDepth 100000 in
set_option maxHeartbeats 3200000 in
theorem ract1 (B r p : Nat) (x b v : Value) (bs xs : List UInt8) (k n : Int) (w : World) (hx : Byt w B x bs) (hB : B ≤ r) (hp : p ≤ bs.length) (hl : bs.length ≤ 60000) (hk0 : 0 ≤ k) (hk1 : k ≤ 9) (hn0 : 0 ≤ n) (hn1 : n < 18446744073709551616)
    (hc : Cu w r r v k xs) (ht : k = 0 → bs.drop p = xs) :
    Calls Try.prog 25 #[.pointer (some ⟨r, 0, none⟩), inV x p k, .agg #[.int .i64 1, .int .u64 n, b]] w (ReadPost w r x bs (numR 1 k xs).2) := by
  obtain ⟨A, c, rfl⟩ := hx.form
  have hrl := hc.lt
  obtain ⟨e1, e2, e3⟩ := numR_tie (m := 1) (k := k) ht
  have hnum : ∀ o1 o2 o3, Calls Try.prog 53 #[inV (.slice A bs.length c) p k, .int .i64 (1 : Nat)] (((w.alloc o1).alloc o2).alloc o3) (NumPost (((w.alloc o1).alloc o2).alloc o3) (.slice A bs.length c) bs (numR 1 k xs).1 (numR 1 k xs).2.1 (numR 1 k xs).2.2) := fun o1 o2 o3 =>
    (fnum_any B _ bs p 1 k _ (hx.below ((((Below.refl B w).alloc (by omega) o1).alloc (by simp; omega) o2).alloc (by simp; omega) o3)) (by simp; omega) hp hl (by omega) hk0 hk1).mono fun e w' hh => by
      obtain ⟨⟨q, he, hq, hqd⟩, hb⟩ := hh
      rw [e1, e2] at he
      exact ⟨⟨q, he, hq, fun h0 => (hqd.trans (e3 h0))⟩, hb⟩
  have hrd : ∀ W, Cu W r r v k xs → Calls Try.prog 15 #[.pointer (some ⟨r, 0, none⟩)] W (Did W r r (.int .u8 (numR 1 k xs).1) (numR 1 k xs).2.1 (numR 1 k xs).2.2) := fun W h => ru8_any r r v k xs W h
  have hz := numR_val (n := 1) (k := k) (xs := xs) (by omega)
  obtain ⟨Z, hZ⟩ : ∃ Z, Z = (numR 1 k xs).1 := ⟨_, rfl⟩
  obtain ⟨K, hK⟩ : ∃ K, K = (numR 1 k xs).2.1 := ⟨_, rfl⟩
  obtain ⟨ys, hys⟩ : ∃ ys, ys = (numR 1 k xs).2.2 := ⟨_, rfl⟩
  rw [show (numR 1 k xs).2 = (K, ys) by rw [hK, hys]]
  rw [← hZ] at hz
  simp only [← hZ, ← hK, ← hys] at hnum hrd
  clear hZ hK hys e1 e2 e3 ht
  unfold inV at *
  have hw : IntKind.u64.wrap Z = Z := by rw [IntKind.wrap_u64]; omega
  have HN := Lib.hid hnum
  have HRD := Lib.hid hrd
  have HC := Lib.hid hc
  have HRL := Lib.hid hrl
  clear hnum hrd hc hrl hx hz
  go_enter Try.func25, Try.ntmps25
  by_cases hbig : n > 9223372036854775808
  all_goals (
    go_wp2_with fail
    refine (HN.out _ _ _).mono ?_
    rintro e w1 ⟨⟨q, rfl, hq, hqd⟩, hb⟩
    have hsz : w.heap.size + 3 ≤ w1.heap.size := by simpa using hb.size
    have hwb : Below w.heap.size w w1 := ((((Below.refl _ w).alloc (Nat.le_refl _) _).alloc (by simp) _).alloc (by simp; omega) _).trans (hb.mono (by simp; omega))
    have h6 : w1.heap[w.heap.size + 2]? = some (.cells #[.slice none 0 0, .int .i64 0, .int .i64 0] 51 (0, 0)) := by
      rw [hb.block (w.heap.size + 2) (by simp)]
      exact third_box w _ _ _
    have hc1 : Cu w1 r r v k xs := HC.out.below hwb
    have HB := Lib.hid hwb
    have HC1 := Lib.hid hc1
    have HQD := Lib.hid hqd
    have h62 : ∀ o, (w1.alloc o).heap[w.heap.size + 2]? = some (.cells #[.slice none 0 0, .int .i64 0, .int .i64 0] 51 (0, 0)) := fun o => by
      rw [Below.heap_alloc _ _ _ (by omega)]
      exact h6
    have hrd1 : ∀ o, Calls Try.prog 15 #[.pointer (some ⟨r, 0, none⟩)] (w1.alloc o).drew (Did (w1.alloc o).drew r r (.int .u8 Z) K ys) := fun o => HRD.out _ (hc1.alloc o)
    have HR := Lib.hid hrd1
    have H6 := Lib.hid h62
    have HS := Lib.hid hsz
    clear hb hwb hc1 hqd h6 h62 hrd1 hsz
    go_wp2_with fail
    go_region_with (go_at_call 15; refine (HR.out _).mono ?_; rintro e w4 ⟨rfl, v4, hc4, ht4⟩; obtain ⟨l0, l1, l2, d0, d1, d2, fr, hne⟩ := act_facts HS.out HRL.out H6.out ht4)
    all_goals go_wp2
    all_goals (
      refine bodyPost_ret (v := .tuple #[.agg #[.slice A bs.length c, .int .i64 q, .int .i64 K], .bool true]) (by simp [results, Try.results25, go_sem, d0, d1, d2]) rfl ⟨q, rfl, hq, HQD.out, v4, ?_⟩
      exact act_end HS.out HRL.out HB.out hc4 ht4))

set_option maxRecDepth 100000 in
set_option maxHeartbeats 3200000 in
theorem ract2 (B r p : Nat) (x b v : Value) (bs xs : List UInt8) (k n : Int) (w : World) (hx : Byt w B x bs) (hB : B ≤ r) (hp : p ≤ bs.length) (hl : bs.length ≤ 60000) (hk0 : 0 ≤ k) (hk1 : k ≤ 9) (hn0 : 0 ≤ n) (hn1 : n < 18446744073709551616)
    (hc : Cu w r r v k xs) (ht : k = 0 → bs.drop p = xs) :
    Calls Try.prog 25 #[.pointer (some ⟨r, 0, none⟩), inV x p k, .agg #[.int .i64 2, .int .u64 n, b]] w (ReadPost w r x bs (numR 2 k xs).2) := by
  obtain ⟨A, c, rfl⟩ := hx.form
  have hrl := hc.lt
  obtain ⟨e1, e2, e3⟩ := numR_tie (m := 2) (k := k) ht
  have hnum : ∀ o1 o2 o3, Calls Try.prog 53 #[inV (.slice A bs.length c) p k, .int .i64 (2 : Nat)] (((w.alloc o1).alloc o2).alloc o3) (NumPost (((w.alloc o1).alloc o2).alloc o3) (.slice A bs.length c) bs (numR 2 k xs).1 (numR 2 k xs).2.1 (numR 2 k xs).2.2) := fun o1 o2 o3 =>
    (fnum_any B _ bs p 2 k _ (hx.below ((((Below.refl B w).alloc (by omega) o1).alloc (by simp; omega) o2).alloc (by simp; omega) o3)) (by simp; omega) hp hl (by omega) hk0 hk1).mono fun e w' hh => by
      obtain ⟨⟨q, he, hq, hqd⟩, hb⟩ := hh
      rw [e1, e2] at he
      exact ⟨⟨q, he, hq, fun h0 => (hqd.trans (e3 h0))⟩, hb⟩
  have hrd : ∀ W, Cu W r r v k xs → Calls Try.prog 16 #[.pointer (some ⟨r, 0, none⟩)] W (Did W r r (.int .u16 (numR 2 k xs).1) (numR 2 k xs).2.1 (numR 2 k xs).2.2) := fun W h => ru16_any r r v k xs W h
  have hz := numR_val (n := 2) (k := k) (xs := xs) (by omega)
  obtain ⟨Z, hZ⟩ : ∃ Z, Z = (numR 2 k xs).1 := ⟨_, rfl⟩
  obtain ⟨K, hK⟩ : ∃ K, K = (numR 2 k xs).2.1 := ⟨_, rfl⟩
  obtain ⟨ys, hys⟩ : ∃ ys, ys = (numR 2 k xs).2.2 := ⟨_, rfl⟩
  rw [show (numR 2 k xs).2 = (K, ys) by rw [hK, hys]]
  rw [← hZ] at hz
  simp only [← hZ, ← hK, ← hys] at hnum hrd
  clear hZ hK hys e1 e2 e3 ht
  unfold inV at *
  have hw : IntKind.u64.wrap Z = Z := by rw [IntKind.wrap_u64]; omega
  have HN := Lib.hid hnum
  have HRD := Lib.hid hrd
  have HC := Lib.hid hc
  have HRL := Lib.hid hrl
  clear hnum hrd hc hrl hx hz
  go_enter Try.func25, Try.ntmps25
  by_cases hbig : n > 9223372036854775808
  all_goals (
    go_wp2_with fail
    refine (HN.out _ _ _).mono ?_
    rintro e w1 ⟨⟨q, rfl, hq, hqd⟩, hb⟩
    have hsz : w.heap.size + 3 ≤ w1.heap.size := by simpa using hb.size
    have hwb : Below w.heap.size w w1 := ((((Below.refl _ w).alloc (Nat.le_refl _) _).alloc (by simp) _).alloc (by simp; omega) _).trans (hb.mono (by simp; omega))
    have h6 : w1.heap[w.heap.size + 2]? = some (.cells #[.slice none 0 0, .int .i64 0, .int .i64 0] 51 (0, 0)) := by
      rw [hb.block (w.heap.size + 2) (by simp)]
      exact third_box w _ _ _
    have hc1 : Cu w1 r r v k xs := HC.out.below hwb
    have HB := Lib.hid hwb
    have HC1 := Lib.hid hc1
    have HQD := Lib.hid hqd
    have h62 : ∀ o, (w1.alloc o).heap[w.heap.size + 2]? = some (.cells #[.slice none 0 0, .int .i64 0, .int .i64 0] 51 (0, 0)) := fun o => by
      rw [Below.heap_alloc _ _ _ (by omega)]
      exact h6
    have hrd1 : ∀ o, Calls Try.prog 16 #[.pointer (some ⟨r, 0, none⟩)] (w1.alloc o).drew (Did (w1.alloc o).drew r r (.int .u16 Z) K ys) := fun o => HRD.out _ (hc1.alloc o)
    have HR := Lib.hid hrd1
    have H6 := Lib.hid h62
    have HS := Lib.hid hsz
    clear hb hwb hc1 hqd h6 h62 hrd1 hsz
    go_wp2_with fail
    go_region_with (go_at_call 16; refine (HR.out _).mono ?_; rintro e w4 ⟨rfl, v4, hc4, ht4⟩; obtain ⟨l0, l1, l2, d0, d1, d2, fr, hne⟩ := act_facts HS.out HRL.out H6.out ht4)
    all_goals go_wp2
    all_goals (
      refine bodyPost_ret (v := .tuple #[.agg #[.slice A bs.length c, .int .i64 q, .int .i64 K], .bool true]) (by simp [results, Try.results25, go_sem, d0, d1, d2]) rfl ⟨q, rfl, hq, HQD.out, v4, ?_⟩
      exact act_end HS.out HRL.out HB.out hc4 ht4))

set_option maxRecDepth 100000 in
set_option maxHeartbeats 3200000 in
theorem ract3 (B r p : Nat) (x b v : Value) (bs xs : List UInt8) (k n : Int) (w : World) (hx : Byt w B x bs) (hB : B ≤ r) (hp : p ≤ bs.length) (hl : bs.length ≤ 60000) (hk0 : 0 ≤ k) (hk1 : k ≤ 9) (hn0 : 0 ≤ n) (hn1 : n < 18446744073709551616)
    (hc : Cu w r r v k xs) (ht : k = 0 → bs.drop p = xs) :
    Calls Try.prog 25 #[.pointer (some ⟨r, 0, none⟩), inV x p k, .agg #[.int .i64 3, .int .u64 n, b]] w (ReadPost w r x bs (numR 4 k xs).2) := by
  obtain ⟨A, c, rfl⟩ := hx.form
  have hrl := hc.lt
  obtain ⟨e1, e2, e3⟩ := numR_tie (m := 4) (k := k) ht
  have hnum : ∀ o1 o2 o3, Calls Try.prog 53 #[inV (.slice A bs.length c) p k, .int .i64 (4 : Nat)] (((w.alloc o1).alloc o2).alloc o3) (NumPost (((w.alloc o1).alloc o2).alloc o3) (.slice A bs.length c) bs (numR 4 k xs).1 (numR 4 k xs).2.1 (numR 4 k xs).2.2) := fun o1 o2 o3 =>
    (fnum_any B _ bs p 4 k _ (hx.below ((((Below.refl B w).alloc (by omega) o1).alloc (by simp; omega) o2).alloc (by simp; omega) o3)) (by simp; omega) hp hl (by omega) hk0 hk1).mono fun e w' hh => by
      obtain ⟨⟨q, he, hq, hqd⟩, hb⟩ := hh
      rw [e1, e2] at he
      exact ⟨⟨q, he, hq, fun h0 => (hqd.trans (e3 h0))⟩, hb⟩
  have hrd : ∀ W, Cu W r r v k xs → Calls Try.prog 17 #[.pointer (some ⟨r, 0, none⟩)] W (Did W r r (.int .u32 (numR 4 k xs).1) (numR 4 k xs).2.1 (numR 4 k xs).2.2) := fun W h => ru32_any r r v k xs W h
  have hz := numR_val (n := 4) (k := k) (xs := xs) (by omega)
  obtain ⟨Z, hZ⟩ : ∃ Z, Z = (numR 4 k xs).1 := ⟨_, rfl⟩
  obtain ⟨K, hK⟩ : ∃ K, K = (numR 4 k xs).2.1 := ⟨_, rfl⟩
  obtain ⟨ys, hys⟩ : ∃ ys, ys = (numR 4 k xs).2.2 := ⟨_, rfl⟩
  rw [show (numR 4 k xs).2 = (K, ys) by rw [hK, hys]]
  rw [← hZ] at hz
  simp only [← hZ, ← hK, ← hys] at hnum hrd
  clear hZ hK hys e1 e2 e3 ht
  unfold inV at *
  have hw : IntKind.u64.wrap Z = Z := by rw [IntKind.wrap_u64]; omega
  have HN := Lib.hid hnum
  have HRD := Lib.hid hrd
  have HC := Lib.hid hc
  have HRL := Lib.hid hrl
  clear hnum hrd hc hrl hx hz
  go_enter Try.func25, Try.ntmps25
  by_cases hbig : n > 9223372036854775808
  all_goals (
    go_wp2_with fail
    refine (HN.out _ _ _).mono ?_
    rintro e w1 ⟨⟨q, rfl, hq, hqd⟩, hb⟩
    have hsz : w.heap.size + 3 ≤ w1.heap.size := by simpa using hb.size
    have hwb : Below w.heap.size w w1 := ((((Below.refl _ w).alloc (Nat.le_refl _) _).alloc (by simp) _).alloc (by simp; omega) _).trans (hb.mono (by simp; omega))
    have h6 : w1.heap[w.heap.size + 2]? = some (.cells #[.slice none 0 0, .int .i64 0, .int .i64 0] 51 (0, 0)) := by
      rw [hb.block (w.heap.size + 2) (by simp)]
      exact third_box w _ _ _
    have hc1 : Cu w1 r r v k xs := HC.out.below hwb
    have HB := Lib.hid hwb
    have HC1 := Lib.hid hc1
    have HQD := Lib.hid hqd
    have h62 : ∀ o, (w1.alloc o).heap[w.heap.size + 2]? = some (.cells #[.slice none 0 0, .int .i64 0, .int .i64 0] 51 (0, 0)) := fun o => by
      rw [Below.heap_alloc _ _ _ (by omega)]
      exact h6
    have hrd1 : ∀ o, Calls Try.prog 17 #[.pointer (some ⟨r, 0, none⟩)] (w1.alloc o).drew (Did (w1.alloc o).drew r r (.int .u32 Z) K ys) := fun o => HRD.out _ (hc1.alloc o)
    have HR := Lib.hid hrd1
    have H6 := Lib.hid h62
    have HS := Lib.hid hsz
    clear hb hwb hc1 hqd h6 h62 hrd1 hsz
    go_wp2_with fail
    go_region_with (go_at_call 17; refine (HR.out _).mono ?_; rintro e w4 ⟨rfl, v4, hc4, ht4⟩; obtain ⟨l0, l1, l2, d0, d1, d2, fr, hne⟩ := act_facts HS.out HRL.out H6.out ht4)
    all_goals go_wp2
    all_goals (
      refine bodyPost_ret (v := .tuple #[.agg #[.slice A bs.length c, .int .i64 q, .int .i64 K], .bool true]) (by simp [results, Try.results25, go_sem, d0, d1, d2]) rfl ⟨q, rfl, hq, HQD.out, v4, ?_⟩
      exact act_end HS.out HRL.out HB.out hc4 ht4))

set_option maxRecDepth 100000 in
set_option maxHeartbeats 3200000 in
theorem ract4 (B r p : Nat) (x b v : Value) (bs xs : List UInt8) (k n : Int) (w : World) (hx : Byt w B x bs) (hB : B ≤ r) (hp : p ≤ bs.length) (hl : bs.length ≤ 60000) (hk0 : 0 ≤ k) (hk1 : k ≤ 9) (hn0 : 0 ≤ n) (hn1 : n < 18446744073709551616)
    (hc : Cu w r r v k xs) (ht : k = 0 → bs.drop p = xs) :
    Calls Try.prog 25 #[.pointer (some ⟨r, 0, none⟩), inV x p k, .agg #[.int .i64 4, .int .u64 n, b]] w (ReadPost w r x bs (numR 8 k xs).2) := by
  obtain ⟨A, c, rfl⟩ := hx.form
  have hrl := hc.lt
  obtain ⟨e1, e2, e3⟩ := numR_tie (m := 8) (k := k) ht
  have hnum : ∀ o1 o2 o3, Calls Try.prog 53 #[inV (.slice A bs.length c) p k, .int .i64 (8 : Nat)] (((w.alloc o1).alloc o2).alloc o3) (NumPost (((w.alloc o1).alloc o2).alloc o3) (.slice A bs.length c) bs (numR 8 k xs).1 (numR 8 k xs).2.1 (numR 8 k xs).2.2) := fun o1 o2 o3 =>
    (fnum_any B _ bs p 8 k _ (hx.below ((((Below.refl B w).alloc (by omega) o1).alloc (by simp; omega) o2).alloc (by simp; omega) o3)) (by simp; omega) hp hl (by omega) hk0 hk1).mono fun e w' hh => by
      obtain ⟨⟨q, he, hq, hqd⟩, hb⟩ := hh
      rw [e1, e2] at he
      exact ⟨⟨q, he, hq, fun h0 => (hqd.trans (e3 h0))⟩, hb⟩
  have hrd : ∀ W, Cu W r r v k xs → Calls Try.prog 18 #[.pointer (some ⟨r, 0, none⟩)] W (Did W r r (.int .u64 (numR 8 k xs).1) (numR 8 k xs).2.1 (numR 8 k xs).2.2) := fun W h => ru64_any r r v k xs W h
  have hz := numR_val (n := 8) (k := k) (xs := xs) (by omega)
  obtain ⟨Z, hZ⟩ : ∃ Z, Z = (numR 8 k xs).1 := ⟨_, rfl⟩
  obtain ⟨K, hK⟩ : ∃ K, K = (numR 8 k xs).2.1 := ⟨_, rfl⟩
  obtain ⟨ys, hys⟩ : ∃ ys, ys = (numR 8 k xs).2.2 := ⟨_, rfl⟩
  rw [show (numR 8 k xs).2 = (K, ys) by rw [hK, hys]]
  rw [← hZ] at hz
  simp only [← hZ, ← hK, ← hys] at hnum hrd
  clear hZ hK hys e1 e2 e3 ht
  unfold inV at *
  have hw : IntKind.u64.wrap Z = Z := by rw [IntKind.wrap_u64]; omega
  have HN := Lib.hid hnum
  have HRD := Lib.hid hrd
  have HC := Lib.hid hc
  have HRL := Lib.hid hrl
  clear hnum hrd hc hrl hx hz
  go_enter Try.func25, Try.ntmps25
  by_cases hbig : n > 9223372036854775808
  all_goals (
    go_wp2_with fail
    refine (HN.out _ _ _).mono ?_
    rintro e w1 ⟨⟨q, rfl, hq, hqd⟩, hb⟩
    have hsz : w.heap.size + 3 ≤ w1.heap.size := by simpa using hb.size
    have hwb : Below w.heap.size w w1 := ((((Below.refl _ w).alloc (Nat.le_refl _) _).alloc (by simp) _).alloc (by simp; omega) _).trans (hb.mono (by simp; omega))
    have h6 : w1.heap[w.heap.size + 2]? = some (.cells #[.slice none 0 0, .int .i64 0, .int .i64 0] 51 (0, 0)) := by
      rw [hb.block (w.heap.size + 2) (by simp)]
      exact third_box w _ _ _
    have hc1 : Cu w1 r r v k xs := HC.out.below hwb
    have HB := Lib.hid hwb
    have HC1 := Lib.hid hc1
    have HQD := Lib.hid hqd
    have h62 : ∀ o, (w1.alloc o).heap[w.heap.size + 2]? = some (.cells #[.slice none 0 0, .int .i64 0, .int .i64 0] 51 (0, 0)) := fun o => by
      rw [Below.heap_alloc _ _ _ (by omega)]
      exact h6
    have hrd1 : ∀ o, Calls Try.prog 18 #[.pointer (some ⟨r, 0, none⟩)] (w1.alloc o).drew (Did (w1.alloc o).drew r r (.int .u64 Z) K ys) := fun o => HRD.out _ (hc1.alloc o)
    have HR := Lib.hid hrd1
    have H6 := Lib.hid h62
    have HS := Lib.hid hsz
    clear hb hwb hc1 hqd h6 h62 hrd1 hsz
    go_wp2_with fail
    go_region_with (go_at_call 18; refine (HR.out _).mono ?_; rintro e w4 ⟨rfl, v4, hc4, ht4⟩; obtain ⟨l0, l1, l2, d0, d1, d2, fr, hne⟩ := act_facts HS.out HRL.out H6.out ht4)
    all_goals go_wp2
    all_goals (
      refine bodyPost_ret (v := .tuple #[.agg #[.slice A bs.length c, .int .i64 q, .int .i64 K], .bool true]) (by simp [results, Try.results25, go_sem, d0, d1, d2]) rfl ⟨q, rfl, hq, HQD.out, v4, ?_⟩
      exact act_end HS.out HRL.out HB.out hc4 ht4))

set_option maxRecDepth 100000 in
set_option maxHeartbeats 3200000 in
theorem ract5 (B r p : Nat) (x b v : Value) (bs xs : List UInt8) (k n : Int) (w : World) (hx : Byt w B x bs) (hB : B ≤ r) (hp : p ≤ bs.length) (hl : bs.length ≤ 60000) (hk0 : 0 ≤ k) (hk1 : k ≤ 9) (hn0 : 0 ≤ n) (hn1 : n < 18446744073709551616)
    (hc : Cu w r r v k xs) (ht : k = 0 → bs.drop p = xs) :
    Calls Try.prog 25 #[.pointer (some ⟨r, 0, none⟩), inV x p k, .agg #[.int .i64 5, .int .u64 n, b]] w (ReadPost w r x bs (sizeR k xs).2) := by
  obtain ⟨A, c, rfl⟩ := hx.form
  have hrl := hc.lt
  obtain ⟨e1, e2, e3⟩ := sizeR_tie (k := k) ht
  have hnum : ∀ o1 o2 o3, Calls Try.prog 54 #[inV (.slice A bs.length c) p k] (((w.alloc o1).alloc o2).alloc o3) (NumPost (((w.alloc o1).alloc o2).alloc o3) (.slice A bs.length c) bs (sizeR k xs).1 (sizeR k xs).2.1 (sizeR k xs).2.2) := fun o1 o2 o3 =>
    (fcomp_any B _ bs p k _ (hx.below ((((Below.refl B w).alloc (by omega) o1).alloc (by simp; omega) o2).alloc (by simp; omega) o3)) (by simp; omega) hp hl hk0 hk1).mono fun e w' hh => by
      obtain ⟨⟨q, he, hq, hqd⟩, hb⟩ := hh
      rw [e1, e2] at he
      exact ⟨⟨q, he, hq, fun h0 => ((hqd (e2.trans h0)).trans (e3 h0))⟩, hb⟩
  have hrd : ∀ W, Cu W r r v k xs → Calls Try.prog 19 #[.pointer (some ⟨r, 0, none⟩)] W (Did W r r (.int .u64 (sizeR k xs).1) (sizeR k xs).2.1 (sizeR k xs).2.2) := fun W h => rsz_any r r v k xs W h
  have hz := sizeR_bd k xs hk0 hk1
  obtain ⟨Z, hZ⟩ : ∃ Z, Z = (sizeR k xs).1 := ⟨_, rfl⟩
  obtain ⟨K, hK⟩ : ∃ K, K = (sizeR k xs).2.1 := ⟨_, rfl⟩
  obtain ⟨ys, hys⟩ : ∃ ys, ys = (sizeR k xs).2.2 := ⟨_, rfl⟩
  rw [show (sizeR k xs).2 = (K, ys) by rw [hK, hys]]
  rw [← hZ] at hz
  simp only [← hZ, ← hK, ← hys] at hnum hrd
  clear hZ hK hys e1 e2 e3 ht
  unfold inV at *
  have hw : IntKind.u64.wrap Z = Z := by rw [IntKind.wrap_u64]; omega
  have HN := Lib.hid hnum
  have HRD := Lib.hid hrd
  have HC := Lib.hid hc
  have HRL := Lib.hid hrl
  clear hnum hrd hc hrl hx hz
  go_enter Try.func25, Try.ntmps25
  by_cases hbig : n > 9223372036854775808
  all_goals (
    go_wp2_with fail
    refine (HN.out _ _ _).mono ?_
    rintro e w1 ⟨⟨q, rfl, hq, hqd⟩, hb⟩
    have hsz : w.heap.size + 3 ≤ w1.heap.size := by simpa using hb.size
    have hwb : Below w.heap.size w w1 := ((((Below.refl _ w).alloc (Nat.le_refl _) _).alloc (by simp) _).alloc (by simp; omega) _).trans (hb.mono (by simp; omega))
    have h6 : w1.heap[w.heap.size + 2]? = some (.cells #[.slice none 0 0, .int .i64 0, .int .i64 0] 51 (0, 0)) := by
      rw [hb.block (w.heap.size + 2) (by simp)]
      exact third_box w _ _ _
    have hc1 : Cu w1 r r v k xs := HC.out.below hwb
    have HB := Lib.hid hwb
    have HC1 := Lib.hid hc1
    have HQD := Lib.hid hqd
    have h62 : ∀ o, (w1.alloc o).heap[w.heap.size + 2]? = some (.cells #[.slice none 0 0, .int .i64 0, .int .i64 0] 51 (0, 0)) := fun o => by
      rw [Below.heap_alloc _ _ _ (by omega)]
      exact h6
    have hrd1 : ∀ o, Calls Try.prog 19 #[.pointer (some ⟨r, 0, none⟩)] (w1.alloc o).drew (Did (w1.alloc o).drew r r (.int .u64 Z) K ys) := fun o => HRD.out _ (hc1.alloc o)
    have HR := Lib.hid hrd1
    have H6 := Lib.hid h62
    have HS := Lib.hid hsz
    clear hb hwb hc1 hqd h6 h62 hrd1 hsz
    go_wp2_with fail
    go_region_with (go_at_call 19; refine (HR.out _).mono ?_; rintro e w4 ⟨rfl, v4, hc4, ht4⟩; obtain ⟨l0, l1, l2, d0, d1, d2, fr, hne⟩ := act_facts HS.out HRL.out H6.out ht4)
    all_goals go_wp2
    all_goals (
      refine bodyPost_ret (v := .tuple #[.agg #[.slice A bs.length c, .int .i64 q, .int .i64 K], .bool true]) (by simp [results, Try.results25, go_sem, d0, d1, d2]) rfl ⟨q, rfl, hq, HQD.out, v4, ?_⟩
      exact act_end HS.out HRL.out HB.out hc4 ht4))

end Go.Proofs.Ytelbcmcffjpdoaa
