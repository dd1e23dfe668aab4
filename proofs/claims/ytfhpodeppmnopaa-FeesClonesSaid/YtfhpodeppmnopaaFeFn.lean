/-
  fees: isBucket, isTarget, All, Within, Waits, until, bucketOf. Conditions: numbers of 64 bits.
-/
import Derived.Test.YtfhpodeppmnopaaFeMem
import Derived.Test.YtfhpodeppmnopaaShelf
import Derived.IntWalk
namespace Go.Proofs.Ytfhpodeppmnopaa
open Go.RowKit

set_option maxRecDepth 100000 in
set_option maxHeartbeats 800000 in
theorem isBucket_any (k : Int) (w : World) : Calls Try.prog 29 #[.int .i64 k] w fun e w' => e = .returned (.bool (decide (0 ≤ k ∧ k < 24))) ∧ w = w' := by
  by_cases h0 : 0 ≤ k
  · have d0 : decide (0 ≤ k) = true := decide_eq_true h0
    have e : decide (0 ≤ k ∧ k < 24) = decide (k < 24) := by simp [h0]
    rw [e]
    clear e
    go_enter Try.func29, Try.ntmps29
    go_wp2
    go_ret
    exact ⟨rfl, rfl⟩
  · have d0 : decide (0 ≤ k) = false := decide_eq_false h0
    have e : decide (0 ≤ k ∧ k < 24) = false := by simp [h0]
    rw [e]
    clear e
    go_enter Try.func29, Try.ntmps29
    go_wp2
    go_ret
    exact ⟨rfl, rfl⟩
set_option maxRecDepth 100000 in
set_option maxHeartbeats 800000 in
theorem isTarget_any (k : Int) (w : World) : Calls Try.prog 28 #[.int .i64 k] w fun e w' => e = .returned (.bool (decide (1 ≤ k ∧ k ≤ 12))) ∧ w = w' := by
  by_cases h0 : 1 ≤ k
  · have d0 : decide (1 ≤ k) = true := decide_eq_true h0
    have e : decide (1 ≤ k ∧ k ≤ 12) = decide (k ≤ 12) := by simp [h0]
    rw [e]
    clear e
    go_enter Try.func28, Try.ntmps28
    go_wp2
    go_ret
    exact ⟨rfl, rfl⟩
  · have d0 : decide (1 ≤ k) = false := decide_eq_false h0
    have e : decide (1 ≤ k ∧ k ≤ 12) = false := by simp [h0]
    rw [e]
    clear e
    go_enter Try.func28, Try.ntmps28
    go_wp2
    go_ret
    exact ⟨rfl, rfl⟩

/-- What All answers. -/
def allF (S : Bs) (k : Int) : Int := if 0 ≤ k ∧ k < 24 then S.A k.toNat else 0
def wiF (S : Bs) (k t : Int) : Int := if 0 ≤ k ∧ k < 24 ∧ 1 ≤ t ∧ t ≤ 12 then S.I k.toNat (t - 1).toNat else 0
set_option maxRecDepth 100000 in
set_option maxHeartbeats 800000 in
theorem all_any (c g : Nat) (m : Option Nat) (S : Bs) (k : Int) (w : World) (h : BookAt w c g m S) :
    Calls Try.prog 15 #[.pointer (some ⟨g, 0, none⟩), .int .i64 k] w fun e w' => e = .returned (.int .i64 (allF S k)) ∧ w = w' := by
  have hb := isBucket_any k w
  by_cases hk : 0 ≤ k ∧ k < 24
  · obtain ⟨n, rfl⟩ : ∃ n : Nat, k = n := ⟨k.toNat, by omega⟩
    have hn : n < 24 := by omega
    have c0 := h.1.all hn
    have e : allF S (n : Int) = S.A n := by unfold allF; rw [if_pos hk]; rfl
    rw [e]
    rw [decide_eq_true hk] at hb
    obtain ⟨x, hx⟩ : ∃ x, x = S.A n := ⟨_, rfl⟩
    rw [← hx] at c0 ⊢
    clear e h hx hk
    go_enter Try.func15, Try.ntmps15
    go_wp2_with fail
    refine hb.mono ?_
    rintro e w1 ⟨rfl, rfl⟩
    go_wp2
    go_ret
    exact ⟨rfl, rfl⟩
  · have e : allF S k = 0 := by unfold allF; rw [if_neg hk]
    rw [e]
    rw [decide_eq_false hk] at hb
    clear e h hk
    go_enter Try.func15, Try.ntmps15
    go_wp2_with fail
    refine hb.mono ?_
    rintro e w1 ⟨rfl, rfl⟩
    go_wp2
    go_ret
    exact ⟨rfl, rfl⟩
set_option maxRecDepth 100000 in
set_option maxHeartbeats 800000 in
theorem waits_any (c g : Nat) (m : Option Nat) (S : Bs) (w : World) (h : BookAt w c g m S) :
    Calls Try.prog 17 #[.pointer (some ⟨g, 0, none⟩)] w fun e w' => e = .returned (.int .i64 (S.W.length : Int)) ∧ w = w' := by
  have c0 := h.1.map
  have hl := fun ty => h.2.size ty
  obtain ⟨x, hx⟩ : ∃ x, x = S.W.length := ⟨_, rfl⟩
  rw [← hx] at hl ⊢
  clear h hx
  go_enter Try.func17, Try.ntmps17
  go_wp2
  go_ret
  exact ⟨rfl, rfl⟩
set_option maxRecDepth 100000 in
set_option maxHeartbeats 800000 in
theorem within_any (c g : Nat) (m : Option Nat) (S : Bs) (k t : Int) (w : World) (h : BookAt w c g m S) (ht1 : -9223372036854775808 ≤ t) (ht2 : t ≤ 9223372036854775807) :
    Calls Try.prog 16 #[.pointer (some ⟨g, 0, none⟩), .int .i64 k, .int .i64 t] w fun e w' => e = .returned (.int .i64 (wiF S k t)) ∧ w = w' := by
  have hb := isBucket_any k w
  have hb2 := isTarget_any t w
  by_cases hk : 0 ≤ k ∧ k < 24
  · rw [decide_eq_true hk] at hb
    by_cases ht : 1 ≤ t ∧ t ≤ 12
    · obtain ⟨n, rfl⟩ : ∃ n : Nat, k = n := ⟨k.toNat, by omega⟩
      obtain ⟨s, hs⟩ : ∃ s : Nat, t = s + 1 := ⟨(t - 1).toNat, by omega⟩
      have hn : n < 24 := by omega
      have hs2 : s < 12 := by omega
      have c0 := h.1.wi hn hs2
      have e : wiF S (n : Int) t = S.I n s := by unfold wiF; rw [if_pos ⟨hk.1, hk.2, ht.1, ht.2⟩, hs]; congr 1; omega
      rw [e]
      rw [decide_eq_true ht] at hb2
      obtain ⟨x, hx⟩ : ∃ x, x = S.I n s := ⟨_, rfl⟩
      rw [← hx] at c0 ⊢
      have ew : wrap64 (t - 1) = (s : Int) := by unfold wrap64; omega
      clear e h hx hk hs ht
      go_enter Try.func16, Try.ntmps16
      go_wp2_with fail
      refine hb.mono ?_
      rintro e w1 ⟨rfl, rfl⟩
      go_wp2_with fail
      refine hb2.mono ?_
      rintro e w1 ⟨rfl, rfl⟩
      go_wp2
      go_ret
      exact ⟨rfl, rfl⟩
    · have e : wiF S k t = 0 := by unfold wiF; rw [if_neg (by omega)]
      rw [e]
      rw [decide_eq_false ht] at hb2
      clear e h ht hk
      go_enter Try.func16, Try.ntmps16
      go_wp2_with fail
      refine hb.mono ?_
      rintro e w1 ⟨rfl, rfl⟩
      go_wp2_with fail
      refine hb2.mono ?_
      rintro e w1 ⟨rfl, rfl⟩
      go_wp2
      go_ret
      exact ⟨rfl, rfl⟩
  · have e : wiF S k t = 0 := by unfold wiF; rw [if_neg (by omega)]
    rw [e]
    rw [decide_eq_false hk] at hb
    clear e h hk hb2
    go_enter Try.func16, Try.ntmps16
    go_wp2_with fail
    refine hb.mono ?_
    rintro e w1 ⟨rfl, rfl⟩
    go_wp2
    go_ret
    exact ⟨rfl, rfl⟩

set_option maxRecDepth 100000 in
set_option maxHeartbeats 800000 in
theorem until_any (b h0 h : Int) (w : World) (g0 : -9223372036854775808 ≤ h0) (g1 : h0 ≤ 9223372036854775807) (g2 : -9223372036854775808 ≤ h) (g3 : h ≤ 9223372036854775807) :
    Calls Try.prog 27 #[.agg #[.int .i64 b, .int .i64 h0], .int .i64 h] w fun e w' => e = .returned (.int .i64 (untF h0 h)) ∧ Below w.heap.size w w' := by
  by_cases hle : h ≤ h0
  · have d0 : decide (h ≤ h0) = true := decide_eq_true hle
    have e : untF h0 h = 1 := by unfold untF; rw [if_pos hle]
    rw [e]
    clear e
    go_enter Try.func27, Try.ntmps27
    go_wp2
    go_ret
    exact ⟨rfl, (Below.refl _ w).alloc (Nat.le_refl _) _⟩
  · have d0 : decide (h ≤ h0) = false := decide_eq_false hle
    have e : untF h0 h = min (h - h0) 13 := by unfold untF; rw [if_neg hle]
    obtain ⟨d, hd⟩ : ∃ d, d = h - h0 := ⟨_, rfl⟩
    rw [e, ← hd]
    have e1 : IntKind.u64.wrap (IntKind.u64.wrap h - IntKind.u64.wrap h0) = d := by
      simp only [IntKind.wrap_u64]
      omega
    clear e
    go_enter Try.func27, Try.ntmps27
    go_wp2
    go_ret
    exact ⟨rfl, (Below.refl _ w).alloc (Nat.le_refl _) _⟩

set_option maxRecDepth 100000 in
set_option maxHeartbeats 800000 in
theorem bucketOf_any (r : Int) (w : World) (g0 : -9223372036854775808 ≤ r) (g1 : r ≤ 9223372036854775807) :
    Calls Try.prog 24 #[.int .i64 r] w fun e w' => e = .returned (.int .i64 (bkF r : Int)) ∧ w' = w := by
  by_cases hlt : r < 1000
  · have d0 : decide (r < 1000) = true := decide_eq_true hlt
    have e : bkF r = 0 := by unfold bkF; rw [if_pos hlt]
    rw [e]
    clear e
    go_enter Try.func24, Try.ntmps24
    go_wp2
    go_ret
    exact ⟨rfl, rfl⟩
  · have d0 : decide (r < 1000) = false := decide_eq_false hlt
    have e : (bkF r : Int) = min ((Lib.bitLen (r / 1000).toNat : Int) - 1) 23 := by
      unfold bkF
      rw [if_neg hlt]
      have hx : (r / 1000).toNat < 2 ^ 64 := by omega
      have h3 : 0 < Lib.bitLen (r / 1000).toNat := ((bitLenAux_spec 64 _ hx).2 (by omega)).1
      omega
    have hbl : Lib.bitLen (r / 1000).toNat ≤ 64 := by
      have : ∀ f x, Lib.bitLenAux f x ≤ f := by
        intro f
        induction f with
        | zero => intro x; simp [Lib.bitLenAux]
        | succ f ih =>
          intro x
          have := ih (x / 2)
          unfold Lib.bitLenAux
          split <;> omega
      exact this 64 _
    have hL := Try.bits_Len64 (r / 1000) w (by omega) (by omega)
    obtain ⟨L, hLe⟩ : ∃ L, L = Lib.bitLen (r / 1000).toNat := ⟨_, rfl⟩
    rw [← hLe] at hL e hbl
    have eq1 : r.tdiv 1000 = r / 1000 := Int.tdiv_eq_ediv_of_nonneg (by omega)
    obtain ⟨q, hq⟩ : ∃ q, q = r / 1000 := ⟨_, rfl⟩
    rw [← hq] at hL eq1
    have ew : IntKind.u64.wrap q = q := by rw [IntKind.wrap_u64]; omega
    have ew2 : wrap64 q = q := by unfold wrap64; omega
    have ew3 : wrap64 ((L : Int) - 1) = (L : Int) - 1 := by unfold wrap64; omega
    rw [e]
    clear e hq hLe
    go_enter Try.func24, Try.ntmps24
    go_wp2_with fail
    refine hL.mono ?_
    rintro e w1 ⟨rfl, rfl⟩
    go_wp2
    go_ret
    exact ⟨rfl, rfl⟩
end Go.Proofs.Ytfhpodeppmnopaa
