/-
  An amount as text, by the program's function: its decimal numerals. Conditions: the library's table of powers of ten holds what its text lays.
-/
import Derived.Test.YtopeblaiifkmoaaDoorAmt
import Derived.Test.YtopeblaiifkmoaaDoorShelf
import Derived.Lib.QuietBelow
import Derived.Lib.AppendIntMem
import Derived.BigQuiet
namespace Go.Proofs.YtopeblaiifkmoaaDoor
open Go.RowKit Go.Sort

def Pow10 (w : World) : Prop := Lib.TabIs Tryd.prog w "internal/strconv.uint64pow10" .u64 Lib.pow10Tab
theorem Pow10.below {w w' : World} (h : Pow10 w) (hb : Below w.heap.size w w') : Pow10 w' := by
  unfold Pow10 Lib.TabIs World.var? at *
  cases hg : Tryd.prog.globalNamed "internal/strconv.uint64pow10" with
  | none => simp [hg] at h
  | some g =>
    simp only [hg, Option.bind_some] at h ⊢
    have hlt : g < w.heap.size := by
      rcases Nat.lt_or_ge g w.heap.size with h' | h'
      · exact h'
      · rw [Array.getElem?_eq_none h'] at h; simp at h
    rw [hb.block g hlt]
    exact h

/-- A number's decimal numeral, as a string's bytes. -/
def num (n : Int) : ByteArray := ⟨(Lib.itoa n).toArray⟩
theorem nDigits_le : ∀ (k u : Nat), 1 ≤ k → u < 10 ^ k → Lib.nDigits u ≤ k
  | 0, _, h, _ => absurd h (by omega)
  | k + 1, u, _, h => by
    by_cases hu : u < 10
    · rw [Lib.nDigits_small hu]; omega
    · rw [Lib.nDigits_big hu]
      rcases k with _ | k
      · simp at h; omega
      · have := nDigits_le (k + 1) (u / 10) (by omega) (by rw [Nat.pow_succ] at h; omega)
        omega
theorem num_size {n : Int} {k : Nat} (h0 : 0 ≤ n) (h1 : n < (10 ^ k : Nat)) (hk : 1 ≤ k) : 1 ≤ (num n).size ∧ (num n).size ≤ k := by
  obtain ⟨u, rfl⟩ : ∃ u : Nat, n = u := ⟨n.toNat, by omega⟩
  have e : (num u).size = Lib.nDigits u := by
    show (Lib.itoa u).toArray.size = _
    rw [Lib.itoa_nonneg, List.size_toArray, Lib.decDigits_length]
  rw [e]
  exact ⟨Lib.nDigits_pos u, nDigits_le k u hk (by exact_mod_cast h1)⟩

theorem formatInt_below (n : Int) (h0 : 0 ≤ n) (h1 : n ≤ 9223372036854775807) (w : World) (hp : Pow10 w) :
    Calls Tryd.prog 27 #[.int .i64 n, .int .i64 10] w fun e w' => e = .returned (.string (num n)) ∧ Below w.heap.size w w' :=
  (Tryd.strconv_FormatInt_10 n (by omega) h1 w hp).mono fun e w' ⟨he, k, os, hw⟩ => ⟨he, by rw [hw]; exact Lib.below_grow _ _ (Nat.le_refl _) k os⟩

/-- What stands behind the point. -/
def fmtS (v : Int) : ByteArray :=
  if amtB v then num (v / 100000000) ++ ⟨#[46]⟩ ++ (⟨#[48, 48, 48, 48, 48, 48, 48, 48]⟩ : ByteArray).extract (num (v % 100000000)).size 8 ++ num (v % 100000000) else ⟨#[45]⟩

set_option maxHeartbeats 800000 in
theorem format_any (v : Int) (w : World) (hp : Pow10 w) :
    Calls Tryd.prog 19 #[.int .i64 v] w fun e w' => e = .returned (.string (fmtS v)) ∧ Below w.heap.size w w' := by
  cases hv : amtB v with
  | false =>
    go_enter Tryd.func19, Tryd.ntmps19
    go_wp2_with (go_at_call 12; refine (valid_any _ _).mono ?_; rintro e w' ⟨rfl, rfl⟩)
    go_ret
    exact ⟨by simp [fmtS, hv], Below.refl _ _⟩
  | true =>
    have bv := amtB_true hv
    obtain ⟨a1, a2⟩ := num_size (n := v / 100000000) (k := 8) (by omega) (by omega) (by omega)
    obtain ⟨p1, p2⟩ := num_size (n := v % 100000000) (k := 8) (by omega) (by omega) (by omega)
    have hf : fmtS v = num (v / 100000000) ++ ⟨#[46]⟩ ++ (⟨#[48, 48, 48, 48, 48, 48, 48, 48]⟩ : ByteArray).extract (num (v % 100000000)).size 8 ++ num (v % 100000000) := by simp [fmtS, hv]
    have HF := Lib.hid hf
    clear hf
    go_enter Tryd.func19, Tryd.ntmps19
    go_wp2_with (first | (go_at_call 12; refine (valid_any _ _).mono ?_; rintro e w' ⟨rfl, rfl⟩) | (go_at_call 27; refine (formatInt_below _ (by omega) (by omega) _ hp).mono ?_; rintro e w1 ⟨rfl, hb1⟩))
    have hp1 := hp.below hb1
    have cN : ∀ d os, Calls Tryd.prog 27 #[.int .i64 (v / 100000000), .int .i64 10] (grow (redrawn w1 d) os) fun e w'' => e = .returned (.string (num (v / 100000000))) ∧ ∃ p : Regrown, w'' = grow (redrawn w1 p.d) p.os :=
      fun d os => Calls.regrown_of (formatInt_below _ (by omega) (by omega) _ (hp1.below (below_regrown _ _ _)))
    obtain ⟨H, hH⟩ : ∃ H : ByteArray, H = num (v / 100000000) := ⟨_, rfl⟩
    obtain ⟨T, hT⟩ : ∃ T : ByteArray, T = num (v % 100000000) := ⟨_, rfl⟩
    rw [← hH] at a1 a2 cN HF
    rw [← hT] at p1 p2 HF ⊢
    have HH := Lib.hid hH
    have HT := Lib.hid hT
    clear hH hT
    refine wp_region_quiet_below (by kernel_rfl) (by kernel_rfl) ?_
    repeat (first | go_big_quiet_step (exact cN _ _) | quiet_step (exact cN _ _))
    refine wpQuiet_nil ?_
    intro _ hw'
    obtain ⟨⟨dq, osq⟩, hw''⟩ := hw'
    subst hw''
    go_wp2
    go_ret
    refine ⟨?_, hb1.trans ((below_regrown w1 dq osq).mono hb1.size)⟩
    rw [HF.out]
    rfl

theorem fmt_one : fmtS 123456789 = ⟨#[49, 46, 50, 51, 52, 53, 54, 55, 56, 57]⟩ := by decide +kernel
theorem fmt_least : fmtS 1 = ⟨#[48, 46, 48, 48, 48, 48, 48, 48, 48, 49]⟩ := by decide +kernel
end Go.Proofs.YtopeblaiifkmoaaDoor
