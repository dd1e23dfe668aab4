/-
  An act read of both: the two arms of bytes. Conditions: sizes within the reach.
-/
import Derived.Test.YtelbcmcffjpdoaaAct
namespace Go.Proofs.Ytelbcmcffjpdoaa
open Go.RowKit

def BytPost (w : World) (x : Value) (bs : List UInt8) (zs : List UInt8) (K : Int) (ys : List UInt8) (e : Ending) (w' : World) : Prop :=
  (∃ z q, e = .returned (.tuple #[z, .agg #[x, .int .i64 ((q : Nat) : Int), .int .i64 K]]) ∧ Byt w' w'.heap.size z zs ∧ q ≤ bs.length ∧ (K = 0 → bs.drop q = ys)) ∧ Below w.heap.size w w'

def mOf (n : Int) : Int := if n > 9223372036854775808 then -(n % 4096) else n % 4096
theorem mOf_bd (n : Int) : -5000 ≤ mOf n ∧ mOf n ≤ 5000 := by
  unfold mOf
  split <;> omega

theorem rawR_tie {m : Int} {k : Int} {xs ys : List UInt8} (h : k = 0 → ys = xs) : (rawR m k ys).1 = (rawR m k xs).1 ∧ (rawR m k ys).2.1 = (rawR m k xs).2.1 ∧ ((rawR m k xs).2.1 = 0 → (rawR m k ys).2.2 = (rawR m k xs).2.2) := by
  by_cases hk : k = 0
  · rw [h hk]
    exact ⟨rfl, rfl, fun _ => rfl⟩
  · unfold rawR
    rw [if_pos hk, if_pos hk]
    exact ⟨rfl, rfl, fun h0 => absurd h0 hk⟩
theorem listR_tie {m : Int} {k : Int} {xs ys : List UInt8} (h : k = 0 → ys = xs) : (listR m k ys).1 = (listR m k xs).1 ∧ (listR m k ys).2.1 = (listR m k xs).2.1 ∧ ((listR m k xs).2.1 = 0 → (listR m k ys).2.2 = (listR m k xs).2.2) := by
  by_cases hk : k = 0
  · rw [h hk]
    exact ⟨rfl, rfl, fun _ => rfl⟩
  · unfold listR
    rw [if_pos hk, if_pos hk]
    exact ⟨rfl, rfl, fun h0 => absurd h0 hk⟩

theorem Cu.no {w : World} {r B : Nat} {v : Value} {k : Int} {xs : List UInt8} (h : Cu w r B v k xs) (o : Nat) (u : UInt8) : w.cell? ⟨r, o, none⟩ ≠ some (bv u) := fun e => by
  obtain ⟨A, c, rfl⟩ := h.2.1.form
  rw [cell_of_row _ r o _ _ _ h.1] at e
  rcases o with _ | _ | o
  · exact slice_no u (by simpa using e)
  · exact i64_no u (by simpa using e)
  · simp at e

theorem Byt.turns {w w' : World} {r B : Nat} {v : Value} {xs : List UInt8} (h : Byt w B v xs) (hB : B ≤ w.heap.size) (hno : ∀ o u, w.cell? ⟨r, o, none⟩ ≠ some (bv u)) (ht : Turns (fun i => i = r) w w') : Byt w' B v xs := by
  obtain ⟨A, c, hv, hl, hm, hA, hx⟩ := h
  refine ⟨A, c, hv, hl, hm, hA, fun hne => ?_⟩
  obtain ⟨b, o, e, hb, hc⟩ := hx hne
  refine ⟨b, o, e, hb, fun j u hu => ?_⟩
  have hbg : b ≠ r := by rintro rfl; exact hno _ _ (hc j u hu)
  rw [ht.cell (p := ⟨b, _, none⟩) (by show b < _; omega) hbg]
  exact hc j u hu

/-- Both lists of bytes behind the method's call. -/
theorem act_byts {w1 w4 : World} {r : Nat} {v z : Value} {k : Int} {xs zs : List UInt8} {o : Obj} {A4 : Option Addr} {c4 base : Nat} (hz : Byt w1 w1.heap.size z zs) (hc : Cu w1 r r v k xs) (ht : Turns (fun i => i = r) (w1.alloc o).drew w4)
    (hown : w4.ownsRow base 5 1 (.slice A4 zs.length c4) zs.length (zs.map bv)) : Byt w4 w4.heap.size (.slice A4 zs.length c4) zs ∧ Byt w4 w1.heap.size z zs :=
  ⟨Byt.of_own hown, ((hz.below (((Below.refl _ w1).alloc (Nat.le_refl _) o).drew)).turns (by show _ ≤ (w1.alloc o).heap.size; simp) (hc.alloc o).no ht)⟩

set_option maxRecDepth 100000 in
set_option maxHeartbeats 6400000 in
theorem ract6 (B r p : Nat) (x b v : Value) (bs xs : List UInt8) (k n : Int) (w : World) (hx : Byt w B x bs) (hB : B ≤ r) (hp : p ≤ bs.length) (hl : bs.length ≤ 60000) (hk0 : 0 ≤ k) (hk1 : k ≤ 9) (hn0 : 0 ≤ n) (hn1 : n < 18446744073709551616)
    (hc : Cu w r r v k xs) (hxl : xs.length ≤ 60000) (ht : k = 0 → bs.drop p = xs) :
    Calls Try.prog 25 #[.pointer (some ⟨r, 0, none⟩), inV x p k, .agg #[.int .i64 6, .int .u64 n, b]] w (ReadPost w r x bs (rawR (mOf n) k xs).2) := by
  obtain ⟨A, c, rfl⟩ := hx.form
  have hrl := hc.lt
  obtain ⟨e1, e2, e3⟩ := rawR_tie (m := mOf n) (k := k) ht
  obtain ⟨m0, m1⟩ := mOf_bd n
  have hnum : ∀ o1 o2 o3, Calls Try.prog 55 #[inV (.slice A bs.length c) p k, .int .i64 (mOf n)] (((w.alloc o1).alloc o2).alloc o3) (BytPost (((w.alloc o1).alloc o2).alloc o3) (.slice A bs.length c) bs (rawR (mOf n) k xs).1 (rawR (mOf n) k xs).2.1 (rawR (mOf n) k xs).2.2) := fun o1 o2 o3 =>
    (fraw_any B _ bs p k (mOf n) _ (hx.below ((((Below.refl B w).alloc (by omega) o1).alloc (by simp; omega) o2).alloc (by simp; omega) o3)) (by simp; omega) hp hl m0 m1 hk0 hk1).mono fun e w' hh => by
      obtain ⟨⟨z, q, he, hz, hq, hqd⟩, hb⟩ := hh
      rw [e2] at he
      rw [e1] at hz
      exact ⟨⟨z, q, he, hz, hq, fun h0 => hqd.trans (e3 h0)⟩, hb⟩
  have hrd : ∀ W, Cu W r r v k xs → Calls Try.prog 21 #[.pointer (some ⟨r, 0, none⟩), .int .i64 (mOf n)] W (DidB W r r (rawR (mOf n) k xs).2.1 (rawR (mOf n) k xs).1 (rawR (mOf n) k xs).2.2) := fun W h => rraw_any r r v k (mOf n) xs W hxl h
  obtain ⟨zs, hZ⟩ : ∃ zs, zs = (rawR (mOf n) k xs).1 := ⟨_, rfl⟩
  obtain ⟨K, hK⟩ : ∃ K, K = (rawR (mOf n) k xs).2.1 := ⟨_, rfl⟩
  obtain ⟨ys, hys⟩ : ∃ ys, ys = (rawR (mOf n) k xs).2.2 := ⟨_, rfl⟩
  rw [show (rawR (mOf n) k xs).2 = (K, ys) by rw [hK, hys]]
  simp only [← hZ, ← hK, ← hys] at hnum hrd
  clear hZ hK hys e1 e2 e3 ht m0 m1
  unfold inV at *
  have HC := Lib.hid hc
  have HRL := Lib.hid hrl
  clear hc hrl hx
  by_cases hbig : n > 9223372036854775808
  · have hm : mOf n = -(n % 4096) := if_pos hbig
    rw [hm] at hnum hrd
    clear hm
    have HN := Lib.hid hnum
    have HRD := Lib.hid hrd
    clear hnum hrd
    go_enter Try.func25, Try.ntmps25
    go_wp2_with fail
    refine (HN.out _ _ _).mono ?_
    rintro e w1 ⟨⟨z, q, rfl, hz, hq, hqd⟩, hb⟩
    obtain ⟨Zp, cz, rfl⟩ := hz.form
    have hsz : w.heap.size + 3 ≤ w1.heap.size := by simpa using hb.size
    have hwb : Below w.heap.size w w1 := ((((Below.refl _ w).alloc (Nat.le_refl _) _).alloc (by simp) _).alloc (by simp; omega) _).trans (hb.mono (by simp; omega))
    have h6 : w1.heap[w.heap.size + 2]? = some (.cells #[.slice none 0 0, .int .i64 0, .int .i64 0] 51 (0, 0)) := by
      rw [hb.block (w.heap.size + 2) (by simp)]
      exact third_box w _ _ _
    have hc1 : Cu w1 r r v k xs := HC.out.below hwb
    have HB := Lib.hid hwb
    have HC1 := Lib.hid hc1
    have HQD := Lib.hid hqd
    have h62 : ∀ o, (w1.alloc o).heap[w.heap.size + 2]? = some (.cells #[.slice none 0 0, .int .i64 0, .int .i64 0] 51 (0, 0)) := fun o => by
      rw [Below.heap_alloc _ _ _ (by omega)]
      exact h6
    have hrd1 : ∀ o, Calls Try.prog 21 #[.pointer (some ⟨r, 0, none⟩), .int .i64 (-(n % 4096))] (w1.alloc o).drew (DidB (w1.alloc o).drew r r K zs ys) := fun o => HRD.out _ (hc1.alloc o)
    have HR := Lib.hid hrd1
    have H6 := Lib.hid h62
    have HS := Lib.hid hsz
    have HZ := Lib.hid hz
    clear hb hwb hc1 hqd h6 h62 hrd1 hsz hz
    go_wp2_with fail
    go_region_with (first
      | (go_at_call 21; refine (HR.out _).mono ?_; rintro e w4 ⟨u, rfl, A4, c4, rfl, hown, v4, hc4, ht4⟩; obtain ⟨l0, l1, l2, d0, d1, d2, fr, hne⟩ := act_facts HS.out HRL.out H6.out ht4; have HYY := Lib.hid (act_byts HZ.out HC1.out ht4 hown); clear hown)
      | (go_at_call 9; refine (equal_yes _ _ _ _ zs zs _ HYY.out.1 HYY.out.2 rfl).mono ?_; rintro e w5 ⟨rfl, rfl⟩))
    all_goals go_wp2
    all_goals (
      refine bodyPost_ret (v := .tuple #[.agg #[.slice A bs.length c, .int .i64 q, .int .i64 K], .bool true]) (by simp [results, Try.results25, go_sem, d0, d1, d2]) rfl ⟨q, rfl, hq, HQD.out, v4, ?_⟩
      exact act_end HS.out HRL.out HB.out hc4 ht4)
  · have hm : mOf n = n % 4096 := if_neg hbig
    rw [hm] at hnum hrd
    clear hm
    have HN := Lib.hid hnum
    have HRD := Lib.hid hrd
    clear hnum hrd
    go_enter Try.func25, Try.ntmps25
    go_wp2_with fail
    refine (HN.out _ _ _).mono ?_
    rintro e w1 ⟨⟨z, q, rfl, hz, hq, hqd⟩, hb⟩
    obtain ⟨Zp, cz, rfl⟩ := hz.form
    have hsz : w.heap.size + 3 ≤ w1.heap.size := by simpa using hb.size
    have hwb : Below w.heap.size w w1 := ((((Below.refl _ w).alloc (Nat.le_refl _) _).alloc (by simp) _).alloc (by simp; omega) _).trans (hb.mono (by simp; omega))
    have h6 : w1.heap[w.heap.size + 2]? = some (.cells #[.slice none 0 0, .int .i64 0, .int .i64 0] 51 (0, 0)) := by
      rw [hb.block (w.heap.size + 2) (by simp)]
      exact third_box w _ _ _
    have hc1 : Cu w1 r r v k xs := HC.out.below hwb
    have HB := Lib.hid hwb
    have HC1 := Lib.hid hc1
    have HQD := Lib.hid hqd
    have h62 : ∀ o, (w1.alloc o).heap[w.heap.size + 2]? = some (.cells #[.slice none 0 0, .int .i64 0, .int .i64 0] 51 (0, 0)) := fun o => by
      rw [Below.heap_alloc _ _ _ (by omega)]
      exact h6
    have hrd1 : ∀ o, Calls Try.prog 21 #[.pointer (some ⟨r, 0, none⟩), .int .i64 (n % 4096)] (w1.alloc o).drew (DidB (w1.alloc o).drew r r K zs ys) := fun o => HRD.out _ (hc1.alloc o)
    have HR := Lib.hid hrd1
    have H6 := Lib.hid h62
    have HS := Lib.hid hsz
    have HZ := Lib.hid hz
    clear hb hwb hc1 hqd h6 h62 hrd1 hsz hz
    go_wp2_with fail
    go_region_with (first
      | (go_at_call 21; refine (HR.out _).mono ?_; rintro e w4 ⟨u, rfl, A4, c4, rfl, hown, v4, hc4, ht4⟩; obtain ⟨l0, l1, l2, d0, d1, d2, fr, hne⟩ := act_facts HS.out HRL.out H6.out ht4; have HYY := Lib.hid (act_byts HZ.out HC1.out ht4 hown); clear hown)
      | (go_at_call 9; refine (equal_yes _ _ _ _ zs zs _ HYY.out.1 HYY.out.2 rfl).mono ?_; rintro e w5 ⟨rfl, rfl⟩))
    all_goals go_wp2
    all_goals (
      refine bodyPost_ret (v := .tuple #[.agg #[.slice A bs.length c, .int .i64 q, .int .i64 K], .bool true]) (by simp [results, Try.results25, go_sem, d0, d1, d2]) rfl ⟨q, rfl, hq, HQD.out, v4, ?_⟩
      exact act_end HS.out HRL.out HB.out hc4 ht4)

set_option maxRecDepth 100000 in
set_option maxHeartbeats 6400000 in
theorem ract7 (B r p : Nat) (x b v : Value) (bs xs : List UInt8) (k n kd : Int) (w : World) (hx : Byt w B x bs) (hB : B ≤ r) (hp : p ≤ bs.length) (hl : bs.length ≤ 60000) (hk0 : 0 ≤ k) (hk1 : k ≤ 9) (hn0 : 0 ≤ n) (hn1 : n < 18446744073709551616)
    (hc : Cu w r r v k xs) (_hxl : xs.length ≤ 60000) (ht : k = 0 → bs.drop p = xs) (q1 : (kd == 1) = false) (q2 : (kd == 2) = false) (q3 : (kd == 3) = false) (q4 : (kd == 4) = false) (q5 : (kd == 5) = false) (q6 : (kd == 6) = false) :
    Calls Try.prog 25 #[.pointer (some ⟨r, 0, none⟩), inV x p k, .agg #[.int .i64 kd, .int .u64 n, b]] w (ReadPost w r x bs (listR (mOf n) k xs).2) := by
  obtain ⟨A, c, rfl⟩ := hx.form
  have hrl := hc.lt
  obtain ⟨e1, e2, e3⟩ := listR_tie (m := mOf n) (k := k) ht
  obtain ⟨m0, m1⟩ := mOf_bd n
  have hnum : ∀ o1 o2 o3, Calls Try.prog 56 #[inV (.slice A bs.length c) p k, .int .i64 (mOf n)] (((w.alloc o1).alloc o2).alloc o3) (BytPost (((w.alloc o1).alloc o2).alloc o3) (.slice A bs.length c) bs (listR (mOf n) k xs).1 (listR (mOf n) k xs).2.1 (listR (mOf n) k xs).2.2) := fun o1 o2 o3 =>
    (flist_any B _ bs p k (mOf n) _ (hx.below ((((Below.refl B w).alloc (by omega) o1).alloc (by simp; omega) o2).alloc (by simp; omega) o3)) (by simp; omega) hp hl m0 m1 hk0 hk1).mono fun e w' hh => by
      obtain ⟨⟨z, q, he, hz, hq, hqd⟩, hb⟩ := hh
      rw [e2] at he
      rw [e1] at hz
      exact ⟨⟨z, q, he, hz, hq, fun h0 => (hqd (e2.trans h0)).trans (e3 h0)⟩, hb⟩
  have hrd : ∀ W, Cu W r r v k xs → Calls Try.prog 22 #[.pointer (some ⟨r, 0, none⟩), .int .i64 (mOf n)] W (DidB W r r (listR (mOf n) k xs).2.1 (listR (mOf n) k xs).1 (listR (mOf n) k xs).2.2) := fun W h => rlist_any r r v k (mOf n) xs W h
  obtain ⟨zs, hZ⟩ : ∃ zs, zs = (listR (mOf n) k xs).1 := ⟨_, rfl⟩
  obtain ⟨K, hK⟩ : ∃ K, K = (listR (mOf n) k xs).2.1 := ⟨_, rfl⟩
  obtain ⟨ys, hys⟩ : ∃ ys, ys = (listR (mOf n) k xs).2.2 := ⟨_, rfl⟩
  rw [show (listR (mOf n) k xs).2 = (K, ys) by rw [hK, hys]]
  simp only [← hZ, ← hK, ← hys] at hnum hrd
  clear hZ hK hys e1 e2 e3 ht m0 m1
  unfold inV at *
  have HC := Lib.hid hc
  have HRL := Lib.hid hrl
  clear hc hrl hx
  by_cases hbig : n > 9223372036854775808
  · have hm : mOf n = -(n % 4096) := if_pos hbig
    rw [hm] at hnum hrd
    clear hm
    have HN := Lib.hid hnum
    have HRD := Lib.hid hrd
    clear hnum hrd
    go_enter Try.func25, Try.ntmps25
    go_wp2_with fail
    refine (HN.out _ _ _).mono ?_
    rintro e w1 ⟨⟨z, q, rfl, hz, hq, hqd⟩, hb⟩
    obtain ⟨Zp, cz, rfl⟩ := hz.form
    have hsz : w.heap.size + 3 ≤ w1.heap.size := by simpa using hb.size
    have hwb : Below w.heap.size w w1 := ((((Below.refl _ w).alloc (Nat.le_refl _) _).alloc (by simp) _).alloc (by simp; omega) _).trans (hb.mono (by simp; omega))
    have h6 : w1.heap[w.heap.size + 2]? = some (.cells #[.slice none 0 0, .int .i64 0, .int .i64 0] 51 (0, 0)) := by
      rw [hb.block (w.heap.size + 2) (by simp)]
      exact third_box w _ _ _
    have hc1 : Cu w1 r r v k xs := HC.out.below hwb
    have HB := Lib.hid hwb
    have HC1 := Lib.hid hc1
    have HQD := Lib.hid hqd
    have h62 : ∀ o, (w1.alloc o).heap[w.heap.size + 2]? = some (.cells #[.slice none 0 0, .int .i64 0, .int .i64 0] 51 (0, 0)) := fun o => by
      rw [Below.heap_alloc _ _ _ (by omega)]
      exact h6
    have hrd1 : ∀ o, Calls Try.prog 22 #[.pointer (some ⟨r, 0, none⟩), .int .i64 (-(n % 4096))] (w1.alloc o).drew (DidB (w1.alloc o).drew r r K zs ys) := fun o => HRD.out _ (hc1.alloc o)
    have HR := Lib.hid hrd1
    have H6 := Lib.hid h62
    have HS := Lib.hid hsz
    have HZ := Lib.hid hz
    clear hb hwb hc1 hqd h6 h62 hrd1 hsz hz
    go_wp2_with fail
    go_region_with (first
      | (go_at_call 22; refine (HR.out _).mono ?_; rintro e w4 ⟨u, rfl, A4, c4, rfl, hown, v4, hc4, ht4⟩; obtain ⟨l0, l1, l2, d0, d1, d2, fr, hne⟩ := act_facts HS.out HRL.out H6.out ht4; have HYY := Lib.hid (act_byts HZ.out HC1.out ht4 hown); clear hown)
      | (go_at_call 9; refine (equal_yes _ _ _ _ zs zs _ HYY.out.1 HYY.out.2 rfl).mono ?_; rintro e w5 ⟨rfl, rfl⟩))
    all_goals go_wp2
    all_goals (
      refine bodyPost_ret (v := .tuple #[.agg #[.slice A bs.length c, .int .i64 q, .int .i64 K], .bool true]) (by simp [results, Try.results25, go_sem, d0, d1, d2]) rfl ⟨q, rfl, hq, HQD.out, v4, ?_⟩
      exact act_end HS.out HRL.out HB.out hc4 ht4)
  · have hm : mOf n = n % 4096 := if_neg hbig
    rw [hm] at hnum hrd
    clear hm
    have HN := Lib.hid hnum
    have HRD := Lib.hid hrd
    clear hnum hrd
    go_enter Try.func25, Try.ntmps25
    go_wp2_with fail
    refine (HN.out _ _ _).mono ?_
    rintro e w1 ⟨⟨z, q, rfl, hz, hq, hqd⟩, hb⟩
    obtain ⟨Zp, cz, rfl⟩ := hz.form
    have hsz : w.heap.size + 3 ≤ w1.heap.size := by simpa using hb.size
    have hwb : Below w.heap.size w w1 := ((((Below.refl _ w).alloc (Nat.le_refl _) _).alloc (by simp) _).alloc (by simp; omega) _).trans (hb.mono (by simp; omega))
    have h6 : w1.heap[w.heap.size + 2]? = some (.cells #[.slice none 0 0, .int .i64 0, .int .i64 0] 51 (0, 0)) := by
      rw [hb.block (w.heap.size + 2) (by simp)]
      exact third_box w _ _ _
    have hc1 : Cu w1 r r v k xs := HC.out.below hwb
    have HB := Lib.hid hwb
    have HC1 := Lib.hid hc1
    have HQD := Lib.hid hqd
    have h62 : ∀ o, (w1.alloc o).heap[w.heap.size + 2]? = some (.cells #[.slice none 0 0, .int .i64 0, .int .i64 0] 51 (0, 0)) := fun o => by
      rw [Below.heap_alloc _ _ _ (by omega)]
      exact h6
    have hrd1 : ∀ o, Calls Try.prog 22 #[.pointer (some ⟨r, 0, none⟩), .int .i64 (n % 4096)] (w1.alloc o).drew (DidB (w1.alloc o).drew r r K zs ys) := fun o => HRD.out _ (hc1.alloc o)
    have HR := Lib.hid hrd1
    have H6 := Lib.hid h62
    have HS := Lib.hid hsz
    have HZ := Lib.hid hz
    clear hb hwb hc1 hqd h6 h62 hrd1 hsz hz
    go_wp2_with fail
    go_region_with (first
      | (go_at_call 22; refine (HR.out _).mono ?_; rintro e w4 ⟨u, rfl, A4, c4, rfl, hown, v4, hc4, ht4⟩; obtain ⟨l0, l1, l2, d0, d1, d2, fr, hne⟩ := act_facts HS.out HRL.out H6.out ht4; have HYY := Lib.hid (act_byts HZ.out HC1.out ht4 hown); clear hown)
      | (go_at_call 9; refine (equal_yes _ _ _ _ zs zs _ HYY.out.1 HYY.out.2 rfl).mono ?_; rintro e w5 ⟨rfl, rfl⟩))
    all_goals go_wp2
    all_goals (
      refine bodyPost_ret (v := .tuple #[.agg #[.slice A bs.length c, .int .i64 q, .int .i64 K], .bool true]) (by simp [results, Try.results25, go_sem, d0, d1, d2]) rfl ⟨q, rfl, hq, HQD.out, v4, ?_⟩
      exact act_end HS.out HRL.out HB.out hc4 ht4)

end Go.Proofs.Ytelbcmcffjpdoaa
