/-
  The reference's shared: 36 bytes over a number. Conditions: as said.
-/
import Derived.Test.YtgkocmljnoambaaDoorNTimes
namespace Go.Proofs.YtgkocmljnoambaaDoor
open Go.RowKit

def fitB (p d i : Nat) : Bool := decide (p / 256 ^ (36 - min i 4) < d)
theorem pre36 (p : Nat) {i : Nat} (h : i < 36) : p / 256 ^ (36 - (i + 1)) = 256 * (p / 256 ^ (36 - i)) + dg36 p i := by
  unfold dg36
  rw [show 36 - (i + 1) = 35 - i by omega, show 36 - i = 35 - i + 1 by omega, Nat.pow_succ, ← Nat.div_div_eq_div_mul]
  omega
theorem dg36_lt (p i : Nat) : dg36 p i < 256 := Nat.mod_lt _ (by omega)
theorem fit_more {p d i b : Nat} (h : i < 4) (hb : b = (p / 256 ^ (36 - i) % d * 256 + dg36 p i) / d) (hd : 0 < d) (h0 : 0 < b) : fitB p d (i + 1) = false := by
  unfold fitB
  rw [show min (i + 1) 4 = i + 1 by omega, decide_eq_false_iff_not, pre36 p (by omega)]
  intro hlt
  have h1 : p / 256 ^ (36 - i) < d := by omega
  rw [Nat.mod_eq_of_lt h1, Nat.mul_comm, Nat.div_eq_of_lt hlt] at hb
  omega
theorem fit_same {p d i : Nat} (h : i < 4) (hb : 0 = (p / 256 ^ (36 - i) % d * 256 + dg36 p i) / d) (hd : 0 < d) : fitB p d (i + 1) = fitB p d i := by
  unfold fitB
  rw [show min (i + 1) 4 = i + 1 by omega, show min i 4 = i by omega, decide_eq_decide, pre36 p (by omega)]
  constructor
  · intro hlt
    omega
  · intro hlt
    rw [Nat.mod_eq_of_lt hlt, Nat.mul_comm] at hb
    exact ((Nat.div_eq_zero_iff_lt hd).1 hb.symm)
theorem fit_rest (p d : Nat) {i : Nat} (h : 4 ≤ i) : fitB p d (i + 1) = fitB p d i := by unfold fitB; rw [show min (i + 1) 4 = 4 by omega, show min i 4 = 4 by omega]
/-- What the loop of shared keeps. -/
structure ShAt (w : World) (p d i : Nat) (wr : World) : Prop where
  r0 : IRow wr w.heap.size 62 .u8 (num36 p)
  r1 : IRow wr (w.heap.size + 1) 23 .u8 (num 0)
  r2 : IRow wr (w.heap.size + 2) 23 .u8 (mixu (p / d) 0 (i - 4))
  bel : Below w.heap.size w wr
theorem ShAt.next {w wr : World} {p d i k b : Nat} (h : ShAt w p d i wr) (hk : k + 4 = i) (hi : i < 36) (hb : b = p / 256 ^ (36 - (i + 1)) / d % 256) :
    ShAt w p d (i + 1) (wr.setCell ⟨w.heap.size + 2, k, none⟩ (.int .u8 (b : Int))) := by
  refine ⟨h.r0.setCell (by show w.heap.size + 2 ≠ _; omega) _, h.r1.setCell (by show w.heap.size + 2 ≠ _; omega) _, ?_, h.bel.setCell (p := ⟨w.heap.size + 2, k, none⟩) (by show _ ≤ w.heap.size + 2; omega) _⟩
  have hs := h.r2.set k (b : Int)
  rw [show i - 4 = k by omega, mixu_set (p / d) 0 (j := k) (by omega) (by
    rw [hb]
    unfold dg
    rw [show 36 - (i + 1) = 31 - k by omega, Nat.div_div_eq_div_mul, Nat.div_div_eq_div_mul, Nat.mul_comm])] at hs
  rw [show i + 1 - 4 = k + 1 by omega]
  exact hs
theorem ShAt.same {w wr : World} {p d i : Nat} (h : ShAt w p d i wr) (hi : i < 4) : ShAt w p d (i + 1) wr := ⟨h.r0, h.r1, by rw [show i + 1 - 4 = i - 4 by omega]; exact h.r2, h.bel⟩
set_option maxRecDepth 100000 in
set_option maxHeartbeats 6400000 in
theorem shared_any (p d : Nat) (w : World) (hp : p < 256 ^ 36) (hd0 : 0 < d) (hd : d ≤ 4800) :
    Calls Tryd.prog 34 #[numV36 p, .int .i64 (d : Int)] w fun e w' => e = .returned (.tuple #[numV (p / d), .bool (fitB p d 36)]) ∧ Below w.heap.size w w' := by
  obtain ⟨q, hq⟩ : ∃ q, q = p / d := ⟨_, rfl⟩
  obtain ⟨W, hW⟩ : ∃ W, W = ((w.alloc (.cells (num36A p) 62)).alloc (.cells zeroA 23)).alloc (.cells zeroA 23) := ⟨_, rfl⟩
  have T0 := Lib.hid (show ShAt w p d 0 W by
    rw [hW]
    exact ⟨((IRow.new w 62 .u8 (num36 p)).alloc _).alloc _, (zero_row_at (w.alloc (.cells (num36A p) 62)) 23 (g := w.heap.size + 1) (by simp)).alloc _, by rw [show 0 - 4 = 0 from rfl, mixu_zero]; exact zero_row_at ((w.alloc (.cells (num36A p) 62)).alloc (.cells zeroA 23)) 23 (g := w.heap.size + 2) (by simp),
      (((Below.refl _ w).alloc (Nat.le_refl _) _).alloc (by simp) _).alloc (by simp; omega) _⟩)
  have h0 : p / 256 ^ (36 - 0) = 0 := Nat.div_eq_of_lt hp
  have F0 := Lib.hid (show fitB p d 0 = true by
    unfold fitB
    rw [show 36 - min 0 4 = 36 - 0 from rfl, h0]
    exact decide_eq_true hd0)
  have P0 := Lib.hid h0
  have HW := Lib.hid hW
  have HD := Lib.hid hd
  have HD0 := Lib.hid hd0
  have HQ := Lib.hid hq
  obtain ⟨fb, hfb⟩ : ∃ fb, fb = fitB p d 36 := ⟨_, rfl⟩
  rw [← hq, ← hfb]
  have HFB := Lib.hid hfb
  clear hW hd hd0 hq hp h0 hfb
  unfold numV36
  go_enter Tryd.func34, Tryd.ntmps34
  go_wp2_with fail
  change Code.wp _ _ _ _ (((w.alloc (.cells (num36A p) 62)).alloc (.cells zeroA 23)).alloc (.cells zeroA 23))
  rw [← HW.out, show w.heap.size + 1 + 1 = w.heap.size + 2 from rfl]
  clear HW
  go_loopw [9, 7, 8] (fun iv rv fv wr => ∃ (i r : Nat) (f : Bool), i ≤ 36 ∧ iv = .int .i64 i ∧ rv = .int .i64 r ∧ fv = .bool f ∧ Hid (r = p / 256 ^ (36 - i) % d) ∧ Hid (f = fitB p d i) ∧ ShAt w p d i wr) (fun iv _ _ _ => 36 - (intOf iv).toNat)
  case atStart => exact ⟨0, 0, true, by omega, rfl, rfl, rfl, Lib.hid (by rw [P0.out, Nat.zero_mod]), Lib.hid F0.out.symm, T0.out⟩
  case round =>
    obtain ⟨i, r, f, hi, rfl, rfl, rfl, hr, hf, hT⟩ := hrel
    by_cases hlt : i < 36
    · have hrd : r < d := by rw [hr.out]; exact Nat.mod_lt _ HD0.out
      have hd := HD.out
      have hd0 := HD0.out
      have hda := dg36_lt p i
      obtain ⟨a, ha⟩ : ∃ a, a = dg36 p i := ⟨_, rfl⟩
      have c0 : wr.cell? ⟨w.heap.size, i, none⟩ = some (.int .u8 (a : Int)) := by rw [ha]; exact hT.r0.cell (num36_at p hlt)
      rw [← ha] at hda
      have hii : (i : Int) < 36 := by omega
      obtain ⟨e1, e2, e3⟩ := div_next (d := d) (t := p / 256 ^ (36 - i)) (p := a) hd0 hda
      rw [← hr.out, ha, ← pre36 p hlt, ← ha] at e1 e2
      rw [← hr.out] at e3
      obtain ⟨X, hX⟩ : ∃ X, X = r * 256 + a := ⟨_, rfl⟩
      rw [← hX] at e1 e2 e3
      have hXl : X ≤ 4800 * 256 := by omega
      obtain ⟨Q, hQ⟩ : ∃ Q, Q = X / d := ⟨_, rfl⟩
      obtain ⟨R, hR⟩ : ∃ R, R = X % d := ⟨_, rfl⟩
      rw [← hQ] at e1 e3
      rw [← hR] at e2
      have w1 : IntKind.i64.wrap (a : Int) = a := i64_cast (by omega) (by omega)
      have w2 : IntKind.i64.wrap ((r : Int) * 256) = ((r : Int) * 256) := i64_cast (by omega) (by omega)
      have w3 : IntKind.i64.wrap ((r : Int) * 256 + (a : Int)) = (X : Int) := by rw [i64_cast (by omega) (by omega)]; omega
      have t1 : (X : Int).tdiv (d : Int) = (Q : Int) := by rw [Int.tdiv_eq_ediv_of_nonneg (by omega), hQ]; rfl
      have t2 : (X : Int).tmod (d : Int) = (R : Int) := by rw [Int.tmod_eq_emod_of_nonneg (by omega), hR]; rfl
      have t3 : (X : Int) / (d : Int) = (Q : Int) := by rw [hQ]; rfl
      have t4 : (X : Int) % (d : Int) = (R : Int) := by rw [hR]; rfl
      have hdz : ((d : Int) == 0) = false := by simp; omega
      have hdz2 : ¬ ((d : Int) = 0) := by omega
      have hQI : (Q : Int) < 256 := by omega
      have hQw : IntKind.i64.wrap (Q : Int) = Q := i64_cast (by omega) (by omega)
      have hRw : IntKind.i64.wrap (R : Int) = R := i64_cast (by have : R < d := by rw [hR]; exact Nat.mod_lt _ hd0
                                                                omega) (by have : R < d := by rw [hR]; exact Nat.mod_lt _ hd0
                                                                           omega)
      have hQu : IntKind.u8.wrap (Q : Int) = Q := by rw [IntKind.wrap_u8']; omega
      have HR := Lib.hid (show R = p / 256 ^ (36 - (i + 1)) % d from e2)
      have HQ1 := Lib.hid (show Q = p / 256 ^ (36 - (i + 1)) / d % 256 from e1)
      have HQX := Lib.hid (show Q = (p / 256 ^ (36 - i) % d * 256 + dg36 p i) / d by rw [← hr.out, ← ha, ← hX]; exact hQ)
      by_cases h4 : 4 ≤ i
      · obtain ⟨k, hk⟩ : ∃ k : Nat, k + 4 = i := ⟨i - 4, by omega⟩
        have ek : (i : Int) - 4 = (k : Int) := by omega
        have hk32 : (k : Int) < 32 := by omega
        have f2 : wr.frozen? ⟨w.heap.size + 2, k, none⟩ = false := hT.r2.free k
        obtain ⟨z2, c2⟩ : ∃ z2, wr.cell? ⟨w.heap.size + 2, k, none⟩ = some (.int .u8 z2) := ⟨_, hT.r2.cell (by rw [show i - 4 = k by omega]; exact mixu_at _ _ _ (by omega) (Nat.le_refl _))⟩
        have HN := Lib.hid (hT.next hk hlt HQ1.out)
        have HF := Lib.hid (show f = fitB p d (i + 1) by rw [fit_rest p d h4]; exact hf.out)
        have hi4 : (4 : Int) ≤ (i : Int) := by omega
        have hi4' : ¬ ((i : Int) < 4) := by omega
        clear hT hX hQ hR ha e1 e2 hk h4 hr hf
        go_wp2_with fail
        exact ⟨⟨i + 1, R, f, by omega, by go_num, rfl, rfl, HR, HF, HN.out⟩, by simp [intOf]; omega⟩
      · have hi4 : (i : Int) < 4 := by omega
        have HN := Lib.hid (hT.same (by omega))
        by_cases hQ0 : 0 < Q
        · have HF := Lib.hid (show false = fitB p d (i + 1) from (fit_more (by omega) HQX.out hd0 hQ0).symm)
          have hQ0i : (0 : Int) < (Q : Int) := by omega
          clear hT hX hQ hR ha e1 e2 h4 hr hf
          go_wp2_with fail
          exact ⟨⟨i + 1, R, false, by omega, by go_num, rfl, rfl, HR, HF, HN.out⟩, by simp [intOf]; omega⟩
        · have hQz : Q = 0 := by omega
          have HF := Lib.hid (show f = fitB p d (i + 1) by rw [fit_same (by omega) (by rw [← HQX.out, hQz]) hd0]; exact hf.out)
          clear hT hX hR ha e1 e2 h4 hr hf hQ0 hQ
          subst hQz
          go_wp2_with fail
          exact ⟨⟨i + 1, R, f, by omega, by go_num, rfl, rfl, HR, HF, HN.out⟩, by simp [intOf]; omega⟩
    · obtain rfl : i = 36 := by omega
      have hff := hf.out
      rw [← HFB.out] at hff
      subst hff
      have R2 := Lib.hid (show IRow wr (w.heap.size + 2) 23 .u8 (num q) by rw [HQ.out, ← mixu_full (p / d) 0]; exact hT.r2)
      have R1 := Lib.hid hT.r1
      have QF := Lib.hid (setRow_irow (ys := num q) hT.r1)
      have HB := Lib.hid (below_setRow (g := w.heap.size + 1) hT.bel (by omega) (numA q))
      clear hT hr hf HFB
      go_wp2_with (first
        | (refine wpList_load_irow rfl 23 (.tmp 6) rfl (g := w.heap.size + 2) (t := 23) (k := .u8) (xs := num q) rfl R2.out Tryd.underlying23 (size_num q) ?_)
        | (refine wpList_store_irow rfl 23 (.tmp 4) (.tmp 38) rfl (g := w.heap.size + 1) (t := 23) (k := .u8) (xs := num 0) (ys := num q) rfl rfl R1.out (size_num q) (same_length _ _) ?_))
      refine bodyPost_ret (v := .tuple #[numV q, .bool f]) ?_ rfl ⟨rfl, HB.out⟩
      exact results_row_tmp Tryd.results34 _ _ (w.heap.size + 1) 23 (numA q) (0, 0) _ _ rfl rfl QF.out Tryd.underlying23 rfl (size_numA q)
end Go.Proofs.YtgkocmljnoambaaDoor
