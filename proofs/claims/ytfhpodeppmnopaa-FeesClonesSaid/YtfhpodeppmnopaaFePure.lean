/-
  What a book of fees counts and who waits, as plain numbers: entering, forgetting, a block, an estimate; what these keep. Conditions: none.
-/
import Derived.Test.YtfhpodeppmnopaaBase
import Derived.Lib.BitFns
namespace Go.Proofs.Ytfhpodeppmnopaa

/-- One that waits. -/
structure Ent where
  id : Nat
  bk : Nat
  ht : Int

/-- A book: what each bucket counts, what of it waited at most i + 1 blocks, and who waits. -/
structure Bs where
  A : Nat → Int
  I : Nat → Nat → Int
  W : List Ent

def bs0 : Bs := ⟨fun _ => 0, fun _ _ => 0, []⟩
def fIdx (W : List Ent) (id : Nat) : Option Nat := W.findIdx? (fun e => e.id == id)
theorem fIdx_some {W : List Ent} {id i : Nat} (h : fIdx W id = some i) : ∃ e, W[i]? = some e ∧ e.id = id ∧ i < W.length ∧ ∀ j e', j < i → W[j]? = some e' → e'.id ≠ id := by
  unfold fIdx at h
  rw [List.findIdx?_eq_some_iff_getElem] at h
  obtain ⟨hi, h1, h2⟩ := h
  refine ⟨W[i], List.getElem?_eq_getElem hi, by simpa using h1, hi, fun j e' hj he' => ?_⟩
  have hjl : j < W.length := by omega
  rw [List.getElem?_eq_getElem hjl] at he'
  have := h2 j hj
  cases he'
  simpa using this
theorem fIdx_none {W : List Ent} {id : Nat} (h : fIdx W id = none) : ∀ e ∈ W, e.id ≠ id := by
  unfold fIdx at h
  rw [List.findIdx?_eq_none_iff] at h
  intro e he
  simpa using h e he

/-- A rate's bucket. -/
def bkF (r : Int) : Nat := if r < 1000 then 0 else min (Lib.bitLen (r / 1000).toNat - 1) 23
theorem bitLenAux_spec : ∀ (f x : Nat), x < 2 ^ f → x < 2 ^ Lib.bitLenAux f x ∧ (x ≠ 0 → 0 < Lib.bitLenAux f x ∧ 2 ^ (Lib.bitLenAux f x - 1) ≤ x)
  | 0, x, h => ⟨by simpa [Lib.bitLenAux] using h, fun h0 => absurd (show x = 0 by simpa using h) h0⟩
  | f + 1, x, h => by
    unfold Lib.bitLenAux
    by_cases hx : x = 0
    · subst hx
      simp
    · rw [if_neg hx]
      have hd : x / 2 < 2 ^ f := by rw [Nat.pow_succ] at h; omega
      obtain ⟨h1, h2⟩ := bitLenAux_spec f (x / 2) hd
      have e : 2 ^ (1 + Lib.bitLenAux f (x / 2)) = 2 * 2 ^ Lib.bitLenAux f (x / 2) := by rw [Nat.add_comm, Nat.pow_succ, Nat.mul_comm]
      refine ⟨by rw [e]; omega, fun _ => ⟨by omega, ?_⟩⟩
      rw [show 1 + Lib.bitLenAux f (x / 2) - 1 = Lib.bitLenAux f (x / 2) by omega]
      by_cases hz : x / 2 = 0
      · rw [hz]
        have : Lib.bitLenAux f 0 = 0 := by cases f <;> simp [Lib.bitLenAux]
        rw [this]
        simp
        omega
      · obtain ⟨h3, h4⟩ := h2 hz
        have e2 : 2 ^ Lib.bitLenAux f (x / 2) = 2 * 2 ^ (Lib.bitLenAux f (x / 2) - 1) := by
          obtain ⟨m, hm⟩ : ∃ m, Lib.bitLenAux f (x / 2) = m + 1 := ⟨_, (Nat.succ_pred_eq_of_pos h3).symm⟩
          rw [hm, Nat.pow_succ, Nat.mul_comm]
          rfl
        omega
theorem bkF_le (r : Int) : bkF r ≤ 23 := by
  unfold bkF
  split <;> omega
theorem bkF_low (r : Int) (h : bkF r ≠ 0) (hr : r ≤ 9223372036854775807) : 1000 * 2 ^ bkF r ≤ r.toNat := by
  unfold bkF at h ⊢
  split at h
  · exact absurd rfl h
  · rename_i h0
    rw [if_neg h0]
    have hx : (r / 1000).toNat < 2 ^ 64 := by omega
    obtain ⟨_, h2⟩ := bitLenAux_spec 64 _ hx
    obtain ⟨h3, h4⟩ := h2 (by omega)
    have h5 : 2 ^ min (Lib.bitLen (r / 1000).toNat - 1) 23 ≤ 2 ^ (Lib.bitLen (r / 1000).toNat - 1) := Nat.pow_le_pow_right (by omega) (by omega)
    have h6 : 2 ^ (Lib.bitLen (r / 1000).toNat - 1) ≤ (r / 1000).toNat := h4
    omega
theorem bkF_high (r : Int) (h : bkF r < 23) (hr : r ≤ 9223372036854775807) : r < (2000 * 2 ^ bkF r : Nat) := by
  unfold bkF at h ⊢
  split at h
  · rename_i h0
    rw [if_pos h0]
    omega
  · rename_i h0
    rw [if_neg h0]
    have hx : (r / 1000).toNat < 2 ^ 64 := by omega
    obtain ⟨h1, h2⟩ := bitLenAux_spec 64 _ hx
    obtain ⟨h3, h4⟩ := h2 (by omega)
    have h1' : (r / 1000).toNat < 2 ^ Lib.bitLen (r / 1000).toNat := h1
    have e : min (Lib.bitLen (r / 1000).toNat - 1) 23 = Lib.bitLen (r / 1000).toNat - 1 := by omega
    rw [e]
    have h3' : 0 < Lib.bitLen (r / 1000).toNat := h3
    obtain ⟨m, hm⟩ : ∃ m, Lib.bitLen (r / 1000).toNat = m + 1 := ⟨_, (Nat.succ_pred_eq_of_pos h3').symm⟩
    rw [hm] at h1' ⊢
    rw [Nat.pow_succ] at h1'
    simp only [Nat.add_sub_cancel]
    omega

/-- How many blocks one waited. -/
def untF (h0 h : Int) : Int := if h ≤ h0 then 1 else min (h - h0) 13
def enterF (S : Bs) (id : Nat) (r h : Int) : Bs := match fIdx S.W id with
  | some _ => S
  | none => ⟨S.A, S.I, S.W ++ [⟨id, bkF r, h⟩]⟩
def forgetF (S : Bs) (id : Nat) : Bs := match fIdx S.W id with
  | none => S
  | some i => ⟨S.A, S.I, S.W.eraseIdx i⟩
def shrF (S : Bs) : Bs := ⟨fun k => S.A k * 998 / 1000, fun k t => S.I k t * 998 / 1000, S.W⟩
def cntF (S : Bs) (k : Nat) (n : Int) : Bs := ⟨fun j => if j = k then S.A j + 1000 else S.A j, fun j t => if j = k ∧ n ≤ t + 1 then S.I j t + 1000 else S.I j t, S.W⟩
def oneF (h : Int) (S : Bs) (id : Nat) : Bs := match fIdx S.W id with
  | none => S
  | some i => match S.W[i]? with
    | none => S
    | some e => ⟨(cntF S e.bk (untF e.ht h)).A, (cntF S e.bk (untF e.ht h)).I, S.W.eraseIdx i⟩
def blockF (S : Bs) (h : Int) (ids : List Nat) : Bs := ids.foldl (oneF h) (shrF S)
/-- From bucket n - 1 downwards: the result so far (0: none), what is combined. -/
def estF (S : Bs) (t : Nat) (p : Int) : Nat → Int → Int → Int → Int
  | 0, best, _, _ => best
  | n + 1, best, a, i =>
    if a + S.A n < 2000 then estF S t p n best (a + S.A n) (i + S.I n t)
    else if (i + S.I n t) * 100 < (a + S.A n) * p then best
    else estF S t p n ((1000 * 2 ^ n : Nat) : Int) 0 0

/-- What every book keeps behind n entries. -/
structure Ok (n : Nat) (S : Bs) : Prop where
  a0 : ∀ k, k < 24 → 0 ≤ S.A k
  a1 : ∀ k, k < 24 → S.A k + 1000 * (S.W.length : Int) ≤ 1000 * (n : Int)
  i0 : ∀ k t, k < 24 → t < 12 → 0 ≤ S.I k t
  i1 : ∀ k t, k < 24 → t < 12 → S.I k t ≤ S.A k
  mo : ∀ k t, k < 24 → t + 1 < 12 → S.I k t ≤ S.I k (t + 1)
  bk : ∀ e ∈ S.W, e.bk < 24 ∧ e.id < 256 ∧ -9223372036854775808 ≤ e.ht ∧ e.ht ≤ 9223372036854775807
  nd : S.W.Pairwise (fun e e' => e.id ≠ e'.id)

theorem ok_zero : Ok 0 bs0 := by
  constructor <;> simp [bs0]
theorem Ok.len {n : Nat} {S : Bs} (h : Ok n S) : S.W.length ≤ n := by
  have h0 := h.a0 0 (by omega)
  have h1 := h.a1 0 (by omega)
  omega
theorem Ok.a2 {n : Nat} {S : Bs} (h : Ok n S) {k : Nat} (hk : k < 24) : S.A k ≤ 1000 * (n : Int) := by
  have h1 := h.a1 k hk
  omega
theorem Ok.i2 {n : Nat} {S : Bs} (h : Ok n S) {k t : Nat} (hk : k < 24) (ht : t < 12) : S.I k t ≤ 1000 * (n : Int) := by
  have h1 := h.a2 hk
  have h2 := h.i1 k t hk ht
  omega
theorem Ok.more {n m : Nat} {S : Bs} (h : Ok n S) (hm : n ≤ m) : Ok m S :=
  ⟨h.a0, fun k hk => by have := h.a1 k hk; omega, h.i0, h.i1, h.mo, h.bk, h.nd⟩
theorem Ok.enter {n : Nat} {S : Bs} (h : Ok n S) {id : Nat} (r : Int) {g : Int} (hid : id < 256) (hg0 : -9223372036854775808 ≤ g) (hg1 : g ≤ 9223372036854775807) : Ok (n + 1) (enterF S id r g) := by
  unfold enterF
  split
  · exact h.more (by omega)
  · rename_i hn
    refine ⟨h.a0, fun k hk => ?_, h.i0, h.i1, h.mo, ?_, ?_⟩
    · have := h.a1 k hk
      simp only [List.length_append, List.length_cons, List.length_nil]
      omega
    · intro e he
      rcases List.mem_append.1 he with he | he
      · exact h.bk e he
      · obtain rfl : e = ⟨id, bkF r, g⟩ := by simpa using he
        exact ⟨by have := bkF_le r; show bkF r < 24; omega, hid, hg0, hg1⟩
    · refine List.pairwise_append.2 ⟨h.nd, by simp, fun a ha b hb => ?_⟩
      obtain rfl : b = ⟨id, bkF r, g⟩ := by simpa using hb
      exact fIdx_none hn a ha
theorem Ok.erase {n : Nat} {S : Bs} (h : Ok n S) (i : Nat) : Ok n ⟨S.A, S.I, S.W.eraseIdx i⟩ :=
  ⟨h.a0, fun k hk => by
    have h1 := h.a1 k hk
    have h2 : (S.W.eraseIdx i).length ≤ S.W.length := (List.eraseIdx_sublist _ _).length_le
    show S.A k + 1000 * ((S.W.eraseIdx i).length : Int) ≤ _
    omega, h.i0, h.i1, h.mo, fun e he => h.bk e ((List.eraseIdx_sublist _ _).subset he), h.nd.sublist (List.eraseIdx_sublist _ _)⟩
theorem Ok.forget {n : Nat} {S : Bs} (h : Ok n S) (id : Nat) : Ok n (forgetF S id) := by
  unfold forgetF
  split
  · exact h
  · exact h.erase _
theorem Ok.shr {n : Nat} {S : Bs} (h : Ok n S) : Ok n (shrF S) := by
  refine ⟨fun k hk => ?_, fun k hk => ?_, fun k t hk ht => ?_, fun k t hk ht => ?_, fun k t hk ht => ?_, h.bk, h.nd⟩
  · have := h.a0 k hk
    show 0 ≤ S.A k * 998 / 1000
    omega
  · have := h.a0 k hk
    have := h.a1 k hk
    show S.A k * 998 / 1000 + 1000 * (S.W.length : Int) ≤ _
    omega
  · have := h.i0 k t hk ht
    show 0 ≤ S.I k t * 998 / 1000
    omega
  · have := h.i0 k t hk ht
    have := h.i1 k t hk ht
    show S.I k t * 998 / 1000 ≤ S.A k * 998 / 1000
    omega
  · have := h.i0 k t hk (by omega)
    have := h.mo k t hk ht
    show S.I k t * 998 / 1000 ≤ S.I k (t + 1) * 998 / 1000
    omega
theorem Ok.one {n : Nat} {S : Bs} (h : Ok n S) (g : Int) (id : Nat) : Ok n (oneF g S id) := by
  unfold oneF
  split
  · exact h
  · rename_i i hi
    split
    · exact h
    · rename_i e he
      have hl : (S.W.eraseIdx i).length + 1 = S.W.length := by
        have hlt := (List.getElem?_eq_some_iff.1 he).1
        rw [List.length_eraseIdx, if_pos hlt]
        omega
      refine ⟨fun k hk => ?_, fun k hk => ?_, fun k t hk ht => ?_, fun k t hk ht => ?_, fun k t hk ht => ?_, fun e he => h.bk e ((List.eraseIdx_sublist _ _).subset he), h.nd.sublist (List.eraseIdx_sublist _ _)⟩
      · have := h.a0 k hk
        show 0 ≤ (if k = e.bk then S.A k + 1000 else S.A k)
        split <;> omega
      · have := h.a1 k hk
        show (if k = e.bk then S.A k + 1000 else S.A k) + 1000 * ((S.W.eraseIdx i).length : Int) ≤ _
        split <;> omega
      · have := h.i0 k t hk ht
        show 0 ≤ (if k = e.bk ∧ untF e.ht g ≤ t + 1 then S.I k t + 1000 else S.I k t)
        split <;> omega
      · have := h.i1 k t hk ht
        show (if k = e.bk ∧ untF e.ht g ≤ t + 1 then S.I k t + 1000 else S.I k t) ≤ (if k = e.bk then S.A k + 1000 else S.A k)
        split <;> split <;> omega
      · have := h.mo k t hk ht
        show (if k = e.bk ∧ untF e.ht g ≤ t + 1 then S.I k t + 1000 else S.I k t) ≤ (if k = e.bk ∧ untF e.ht g ≤ (t + 1 : Nat) + 1 then S.I k (t + 1) + 1000 else S.I k (t + 1))
        split <;> split <;> omega
theorem Ok.ones {n : Nat} (g : Int) : ∀ (ids : List Nat) {S : Bs}, Ok n S → Ok n (ids.foldl (oneF g) S)
  | [], _, h => h
  | id :: ids, _, h => Ok.ones g ids (h.one g id)
theorem Ok.block {n : Nat} {S : Bs} (h : Ok n S) (g : Int) (ids : List Nat) : Ok n (blockF S g ids) := Ok.ones g ids h.shr

/-- Longer targets and lower parts: the result is there too, and is no greater. -/
theorem est_grows {n : Nat} {S : Bs} (hS : Ok n S) {t t' : Nat} (ht : t < 12) (ht' : t' < 12) {p p' : Int} (hI : ∀ k, k < 24 → S.I k t ≤ S.I k t') (hp : p' ≤ p) :
    ∀ (m : Nat), m ≤ 24 → ∀ (best a i i' : Int), 0 ≤ a → i ≤ i' → (best = 0 ∨ ((1000 * 2 ^ m : Nat) : Int) ≤ best) →
      (estF S t' p' m best a i' = estF S t p m best a i ∨ (0 < estF S t' p' m best a i' ∧ (estF S t p m best a i = 0 ∨ estF S t' p' m best a i' ≤ estF S t p m best a i)))
  | 0, _, best, a, i, i', _, _, _ => .inl rfl
  | m + 1, hm, best, a, i, i', ha, hi, hb => by
    have hA := hS.a0 m (by omega)
    have hIm := hI m (by omega)
    have hpow : ((1000 * 2 ^ (m + 1) : Nat) : Int) = 2 * ((1000 * 2 ^ m : Nat) : Int) := by rw [Nat.pow_succ]; omega
    have hpos : (0 : Int) < ((1000 * 2 ^ m : Nat) : Int) := by have := Nat.two_pow_pos m; omega
    simp only [estF]
    by_cases h1 : a + S.A m < 2000
    · rw [if_pos h1, if_pos h1]
      exact est_grows hS ht ht' hI hp m (by omega) best _ _ _ (by omega) (by omega) (by omega)
    · rw [if_neg h1, if_neg h1]
      have hmul : (a + S.A m) * p' ≤ (a + S.A m) * p := Int.mul_le_mul_of_nonneg_left hp (by omega)
      by_cases h2 : (i + S.I m t) * 100 < (a + S.A m) * p
      · rw [if_pos h2]
        by_cases h3 : (i' + S.I m t') * 100 < (a + S.A m) * p'
        · rw [if_pos h3]
          exact .inl rfl
        · rw [if_neg h3]
          have hk := est_pos S t' p' m ((1000 * 2 ^ m : Nat) : Int) 0 0 hpos (Int.le_refl _)
          refine .inr ⟨hk.1, ?_⟩
          rcases hb with hb | hb
          · exact .inl hb
          · exact .inr (by omega)
      · rw [if_neg h2, if_neg (by omega)]
        exact est_grows hS ht ht' hI hp m (by omega) _ 0 0 0 (Int.le_refl _) (Int.le_refl _) (.inr (Int.le_refl _))
where
  est_pos (S : Bs) (t : Nat) (p : Int) : ∀ (m : Nat) (best a i : Int), 0 < best → ((1000 * 2 ^ m : Nat) : Int) ≤ best → 0 < estF S t p m best a i ∧ estF S t p m best a i ≤ best
    | 0, best, a, i, h, _ => ⟨h, Int.le_refl _⟩
    | m + 1, best, a, i, h, hb => by
      have hpow : ((1000 * 2 ^ (m + 1) : Nat) : Int) = 2 * ((1000 * 2 ^ m : Nat) : Int) := by rw [Nat.pow_succ]; omega
      have hpos : (0 : Int) < ((1000 * 2 ^ m : Nat) : Int) := by have := Nat.two_pow_pos m; omega
      simp only [estF]
      split
      · exact est_pos S t p m best _ _ h (by omega)
      · split
        · exact ⟨h, Int.le_refl _⟩
        · have := est_pos S t p m ((1000 * 2 ^ m : Nat) : Int) 0 0 hpos (Int.le_refl _)
          omega
end Go.Proofs.Ytfhpodeppmnopaa
