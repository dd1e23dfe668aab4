/-
  The checksum of a descriptor, on plain numbers: it is linear, and a byte that is another one makes another checksum. Conditions: none (plain mathematics).
-/
import Derived.Test.YtpaafkhlelljcaaDoorStep
import Derived.Laws.Bits64
import Derived.Lib.Zigzag
namespace Go.Proofs.YtpaafkhlelljcaaDoor
open Go.RowKit

/-- The m-th of the five numbers. -/
def gN : Nat → Nat
  | 0 => 1056006543753
  | 1 => 730107360018
  | 2 => 118834127661
  | 3 => 236335490938
  | _ => 430795026429
def mixN (up : Nat) (c : Nat) : Nat → Nat
  | 0 => c
  | m + 1 => if up / 2 ^ m % 2 = 1 then mixN up c m ^^^ gN m else mixN up c m
/-- A value more. -/
def turnN (c v : Nat) : Nat := mixN (c / 34359738368) ((c % 34359738368 * 32) ^^^ v) 5

theorem mixN_out (up c : Nat) : ∀ m, mixN up c m = c ^^^ mixN up 0 m
  | 0 => (Nat.xor_zero c).symm
  | m + 1 => by
    unfold mixN
    split
    · rw [mixN_out up c m, Nat.xor_assoc]
    · exact mixN_out up c m
theorem gN_lt (m : Nat) : gN m < 1099511627776 := by
  unfold gN
  split <;> omega
theorem mixN_lt (up c : Nat) (hc : c < 1099511627776) : ∀ m, mixN up c m < 1099511627776
  | 0 => hc
  | m + 1 => by
    unfold mixN
    have h := mixN_lt up c hc m
    split
    · exact Nat.xor_lt_two_pow (n := 40) h (gN_lt m)
    · exact h
theorem turnN_lt (c v : Nat) (hv : v < 1099511627776) : turnN c v < 1099511627776 :=
  mixN_lt _ _ (Nat.xor_lt_two_pow (n := 40) (by omega) hv) 5

theorem mix_xor : ∀ a : Fin 32, ∀ b : Fin 32, mixN (a.val ^^^ b.val) 0 5 = mixN a.val 0 5 ^^^ mixN b.val 0 5 := by decide +kernel
theorem mix_low : ∀ a : Fin 32, mixN a.val 0 5 % 32 = 0 → a.val = 0 := by decide +kernel

theorem turnN_out (c v : Nat) : turnN c v = turnN c 0 ^^^ v := by
  unfold turnN
  rw [mixN_out _ (_ ^^^ v), mixN_out _ (_ ^^^ 0), Nat.xor_zero, Nat.xor_assoc, Nat.xor_assoc, Nat.xor_comm v]
theorem turnN_xor (c d : Nat) (hc : c < 1099511627776) (hd : d < 1099511627776) : turnN (c ^^^ d) 0 = turnN c 0 ^^^ turnN d 0 := by
  unfold turnN
  simp only [Nat.xor_zero]
  rw [mixN_out _ (_ * 32), mixN_out (c / _) (_ * 32), mixN_out (d / _) (_ * 32)]
  have e1 : (c ^^^ d) / 34359738368 = c / 34359738368 ^^^ d / 34359738368 := by
    have := Nat.shiftRight_xor_distrib (a := c) (b := d) (i := 35)
    simpa [Nat.shiftRight_eq_div_pow] using this
  have e2 : (c ^^^ d) % 34359738368 = c % 34359738368 ^^^ d % 34359738368 := by
    have := Nat.xor_mod_two_pow (a := c) (b := d) (n := 35)
    simpa using this
  have e3 : (c % 34359738368 ^^^ d % 34359738368) * 32 = c % 34359738368 * 32 ^^^ d % 34359738368 * 32 := by
    have := Nat.shiftLeft_xor_distrib (a := c % 34359738368) (b := d % 34359738368) (i := 5)
    simpa [Nat.shiftLeft_eq] using this
  have e4 := mix_xor ⟨c / 34359738368, by omega⟩ ⟨d / 34359738368, by omega⟩
  dsimp only at e4
  rw [e1, e2, e3, e4]
  generalize c % 34359738368 * 32 = x
  generalize d % 34359738368 * 32 = y
  generalize mixN (c / 34359738368) 0 5 = p
  generalize mixN (d / 34359738368) 0 5 = q
  rw [Nat.xor_assoc, Nat.xor_assoc, ← Nat.xor_assoc y p, Nat.xor_comm y p, Nat.xor_assoc p y]
theorem xor_zero_eq {a b : Nat} (h : a ^^^ b = 0) : a = b := by
  have := congrArg (· ^^^ b) h
  simpa [Nat.xor_assoc] using this
theorem turnN_zero {d : Nat} (hd : d < 1099511627776) (h : turnN d 0 = 0) : d = 0 := by
  unfold turnN at h
  rw [Nat.xor_zero, mixN_out] at h
  have h1 := xor_zero_eq h
  have h2 := mix_low ⟨d / 34359738368, by omega⟩ (by dsimp only; rw [← h1]; omega)
  dsimp only at h2
  rw [h2] at h1
  have h3 : mixN 0 0 5 = 0 := by decide
  rw [h3] at h1
  omega
/-- The same value keeps two apart. -/
theorem turnN_apart {c d v : Nat} (hc : c < 1099511627776) (hd : d < 1099511627776) (hne : c ≠ d) : turnN c v ≠ turnN d v := by
  intro h
  rw [turnN_out c, turnN_out d] at h
  have h1 : turnN (c ^^^ d) 0 = 0 := by
    rw [turnN_xor c d hc hd]
    have := congrArg (· ^^^ v) h
    simp only [Nat.xor_assoc, Nat.xor_self, Nat.xor_zero] at this
    rw [this, Nat.xor_self]
  exact hne (xor_zero_eq (turnN_zero (Nat.xor_lt_two_pow (n := 40) hc hd) h1))
theorem turnN_small (d : Nat) (hd : d < 34359738368) : turnN d 0 = d * 32 := by
  unfold turnN
  have h3 : ∀ x, mixN 0 x 5 = x := fun x => by rw [mixN_out]; show x ^^^ 0 = x; exact Nat.xor_zero x
  rw [Nat.xor_zero, Nat.div_eq_of_lt hd, Nat.mod_eq_of_lt hd, h3]

/-- What has come: the sum, the group, and how many are in it. -/
structure ChkSt where
  c : Nat
  g : Nat
  k : Nat
def chk1 (s : ChkSt) (p : Nat) : ChkSt :=
  if s.k + 1 = 3 then ⟨turnN (turnN s.c (p % 32)) (3 * s.g + p / 32), 0, 0⟩ else ⟨turnN s.c (p % 32), 3 * s.g + p / 32, s.k + 1⟩
def chkAll (ps : List Nat) : ChkSt := ps.foldl chk1 ⟨1, 0, 0⟩
def chkEnd (s : ChkSt) : Nat := if 0 < s.k then turnN s.c s.g else s.c
def eight (c : Nat) : Nat := turnN (turnN (turnN (turnN (turnN (turnN (turnN (turnN c 0) 0) 0) 0) 0) 0) 0) 0
def chkN (ps : List Nat) : Nat := eight (chkEnd (chkAll ps)) ^^^ 1

structure ChkOk (s : ChkSt) : Prop where
  c : s.c < 1099511627776
  k : s.k < 3
  g : s.g ≤ if s.k = 0 then 0 else if s.k = 1 then 2 else 8
theorem ChkOk.g8 {s : ChkSt} (h : ChkOk s) : s.g ≤ 8 := by have := h.g; split at this <;> (try split at this) <;> omega
theorem chk1_ok {s : ChkSt} {p : Nat} (h : ChkOk s) (hp : p < 96) : ChkOk (chk1 s p) := by
  have hg := h.g
  have hk := h.k
  have h8 := h.g8
  unfold chk1
  split
  · exact ⟨turnN_lt _ _ (by omega), by show 0 < 3; omega, by simp⟩
  · next hk3 =>
    refine ⟨turnN_lt _ _ (by omega), by show s.k + 1 < 3; omega, ?_⟩
    show 3 * s.g + p / 32 ≤ if s.k + 1 = 0 then 0 else if s.k + 1 = 1 then 2 else 8
    rw [if_neg (by omega)]
    split
    · have h0 : s.k = 0 := by omega
      rw [if_pos h0] at hg
      omega
    · have h1 : ¬ s.k = 0 := by omega
      rw [if_neg h1, if_pos (by omega)] at hg
      omega
theorem chkSt0_ok : ChkOk ⟨1, 0, 0⟩ := ⟨by decide, by decide, by simp⟩
theorem chkFold_ok (ps : List Nat) (hp : ∀ p ∈ ps, p < 96) : ∀ s, ChkOk s → ChkOk (ps.foldl chk1 s) := by
  induction ps with
  | nil => exact fun s h => h
  | cons p ps ih => exact fun s h => ih (fun q hq => hp q (List.mem_cons_of_mem _ hq)) _ (chk1_ok h (hp p List.mem_cons_self))
theorem chkEnd_lt {s : ChkSt} (h : ChkOk s) : chkEnd s < 1099511627776 := by
  have := h.g8
  unfold chkEnd
  split
  · exact turnN_lt _ _ (by omega)
  · exact h.c
theorem eight_lt (c : Nat) : eight c < 1099511627776 := turnN_lt _ _ (by omega)
theorem chkN_lt (ps : List Nat) : chkN ps < 1099511627776 := Nat.xor_lt_two_pow (n := 40) (eight_lt _) (by decide)

/-- Two that part: in the sum, or within a group that isn't closed yet. -/
def Part (s t : ChkSt) : Prop := s.k = t.k ∧ (s.c ≠ t.c ∧ s.g = t.g ∨ 0 < s.k ∧ s.c ^^^ t.c < 1024 ∧ (s.k = 1 → s.c ^^^ t.c < 32) ∧ (s.c ≠ t.c ∨ s.g ≠ t.g))

theorem xor_eq_of {a b d : Nat} (h : a ^^^ b = d) : a = b ^^^ d := by
  rw [← h, Nat.xor_comm a b, ← Nat.xor_assoc, Nat.xor_self, Nat.zero_xor]
theorem diff_turn {c d a b : Nat} (hc : c < 1099511627776) (hd : d < 1099511627776) (hx : c ^^^ d < 34359738368) : turnN c a ^^^ turnN d b = (c ^^^ d) * 32 ^^^ (a ^^^ b) := by
  rw [turnN_out c, turnN_out d, ← turnN_small _ hx, turnN_xor c d hc hd]
  generalize turnN c 0 = x
  generalize turnN d 0 = y
  rw [Nat.xor_assoc, Nat.xor_assoc, ← Nat.xor_assoc a y, Nat.xor_comm a y, Nat.xor_assoc y a]
theorem ne_of_xor {a b : Nat} (h : a ^^^ b ≠ 0) : a ≠ b := by rintro rfl; exact h (Nat.xor_self a)
theorem diff_ne {c d a b : Nat} (hc : c < 1099511627776) (hd : d < 1099511627776) (hx : c ^^^ d < 34359738368) (ha : a < 32) (hb : b < 32) (hne : c ≠ d ∨ a ≠ b) : turnN c a ≠ turnN d b := by
  refine ne_of_xor ?_
  rw [diff_turn hc hd hx]
  intro h
  have h1 := xor_zero_eq h
  have h2 : a ^^^ b < 32 := Nat.xor_lt_two_pow (n := 5) ha hb
  have h3 : c ^^^ d = 0 := by omega
  have h4 : a ^^^ b = 0 := by omega
  rcases hne with h | h
  · exact h (xor_zero_eq h3)
  · exact h (xor_zero_eq h4)

theorem part_next {s t : ChkSt} {p : Nat} (hs : ChkOk s) (ht : ChkOk t) (hp : p < 96) (h : Part s t) : Part (chk1 s p) (chk1 t p) := by
  obtain ⟨hk, h⟩ := h
  have hs8 := hs.g8
  have ht8 := ht.g8
  have hk3 := hs.k
  unfold chk1
  rw [← hk]
  rcases h with ⟨hne, hg⟩ | ⟨hk0, hx, hx1, hne⟩
  · split
    · refine ⟨rfl, .inl ⟨?_, rfl⟩⟩
      show turnN (turnN s.c (p % 32)) (3 * s.g + p / 32) ≠ turnN (turnN t.c (p % 32)) (3 * t.g + p / 32)
      rw [hg]
      exact turnN_apart (turnN_lt _ _ (by omega)) (turnN_lt _ _ (by omega)) (turnN_apart hs.c ht.c hne)
    · refine ⟨rfl, .inl ⟨turnN_apart hs.c ht.c hne, ?_⟩⟩
      show 3 * s.g + p / 32 = 3 * t.g + p / 32
      rw [hg]
  · have hd := diff_turn (a := p % 32) (b := p % 32) hs.c ht.c (by omega)
    rw [Nat.xor_self, Nat.xor_zero] at hd
    have hnc : s.c ≠ t.c → turnN s.c (p % 32) ≠ turnN t.c (p % 32) := turnN_apart hs.c ht.c
    split
    · refine ⟨rfl, .inl ⟨?_, rfl⟩⟩
      show turnN (turnN s.c (p % 32)) (3 * s.g + p / 32) ≠ turnN (turnN t.c (p % 32)) (3 * t.g + p / 32)
      refine diff_ne (turnN_lt _ _ (by omega)) (turnN_lt _ _ (by omega)) (by rw [hd]; omega) (by omega) (by omega) ?_
      rcases hne with h | h
      · exact .inl (hnc h)
      · exact .inr (by omega)
    · refine ⟨rfl, .inr ⟨?_, ?_, ?_, ?_⟩⟩
      · show 0 < s.k + 1
        omega
      · show turnN s.c (p % 32) ^^^ turnN t.c (p % 32) < 1024
        rw [hd]
        have := hx1 (by omega)
        omega
      · intro h
        have h2 : s.k + 1 = 1 := h
        omega
      · rcases hne with h | h
        · exact .inl (hnc h)
        · refine .inr ?_
          show 3 * s.g + p / 32 ≠ 3 * t.g + p / 32
          omega
theorem part_first {s : ChkSt} {p q : Nat} (hs : ChkOk s) (hp : p < 96) (hq : q < 96) (hne : p ≠ q) : Part (chk1 s p) (chk1 s q) := by
  have hs8 := hs.g8
  have hx : (s.c ^^^ s.c) < 34359738368 := by rw [Nat.xor_self]; omega
  have hd := diff_turn (a := p % 32) (b := q % 32) hs.c hs.c hx
  rw [Nat.xor_self, Nat.zero_mul, Nat.zero_xor] at hd
  have hlt : (p % 32) ^^^ (q % 32) < 32 := Nat.xor_lt_two_pow (n := 5) (by omega) (by omega)
  have hor : turnN s.c (p % 32) ≠ turnN s.c (q % 32) ∨ 3 * s.g + p / 32 ≠ 3 * s.g + q / 32 := by
    by_cases h : p % 32 = q % 32
    · exact .inr (by omega)
    · exact .inl (diff_ne hs.c hs.c hx (by omega) (by omega) (.inr h))
  unfold chk1
  split
  · exact ⟨rfl, .inl ⟨diff_ne (turnN_lt _ _ (by omega)) (turnN_lt _ _ (by omega)) (by rw [hd]; omega) (by omega) (by omega) hor, rfl⟩⟩
  · refine ⟨rfl, .inr ⟨?_, ?_, fun _ => ?_, hor⟩⟩
    · show 0 < s.k + 1
      omega
    · show turnN s.c (p % 32) ^^^ turnN s.c (q % 32) < 1024
      rw [hd]
      omega
    · show turnN s.c (p % 32) ^^^ turnN s.c (q % 32) < 32
      rw [hd]
      exact hlt
theorem part_fold (ps : List Nat) (hp : ∀ p ∈ ps, p < 96) : ∀ s t, ChkOk s → ChkOk t → Part s t → Part (ps.foldl chk1 s) (ps.foldl chk1 t) := by
  induction ps with
  | nil => exact fun s t _ _ h => h
  | cons p ps ih =>
    intro s t hs ht h
    have hp0 := hp p List.mem_cons_self
    exact ih (fun q hq => hp q (List.mem_cons_of_mem _ hq)) _ _ (chk1_ok hs hp0) (chk1_ok ht hp0) (part_next hs ht hp0 h)
theorem part_end {s t : ChkSt} (hs : ChkOk s) (ht : ChkOk t) (h : Part s t) : chkEnd s ≠ chkEnd t := by
  have hs8 := hs.g8
  have ht8 := ht.g8
  obtain ⟨hk, h⟩ := h
  unfold chkEnd
  rw [← hk]
  rcases h with ⟨hne, hg⟩ | ⟨hk0, hx, hx1, hne⟩
  · rw [← hg]
    split
    · exact turnN_apart hs.c ht.c hne
    · exact hne
  · rw [if_pos hk0, if_pos hk0]
    exact diff_ne hs.c ht.c (by omega) (by omega) (by omega) hne
theorem eight_apart {c d : Nat} (hc : c < 1099511627776) (hd : d < 1099511627776) (h : c ≠ d) : eight c ≠ eight d := by
  have l : ∀ c, turnN c 0 < 1099511627776 := fun c => turnN_lt _ _ (by omega)
  unfold eight
  exact turnN_apart (l _) (l _) (turnN_apart (l _) (l _) (turnN_apart (l _) (l _) (turnN_apart (l _) (l _) (turnN_apart (l _) (l _) (turnN_apart (l _) (l _) (turnN_apart (l _) (l _) (turnN_apart hc hd h)))))))
/-- One position that is another one makes another sum. -/
theorem chkN_apart (xs ys : List Nat) (p q : Nat) (hx : ∀ a ∈ xs, a < 96) (hy : ∀ a ∈ ys, a < 96) (hp : p < 96) (hq : q < 96) (hne : p ≠ q) : chkN (xs ++ p :: ys) ≠ chkN (xs ++ q :: ys) := by
  have h0 := chkFold_ok xs hx _ chkSt0_ok
  have h1 := chk1_ok h0 hp
  have h2 := chk1_ok h0 hq
  unfold chkN chkAll
  rw [List.foldl_append, List.foldl_append, List.foldl_cons, List.foldl_cons]
  have hP := part_fold ys hy _ _ h1 h2 (part_first h0 hp hq hne)
  have ha := chkFold_ok ys hy _ h1
  have hb := chkFold_ok ys hy _ h2
  have he := eight_apart (chkEnd_lt ha) (chkEnd_lt hb) (part_end ha hb hP)
  intro h
  refine he ?_
  have := congrArg (· ^^^ 1) h
  simpa [Nat.xor_assoc] using this

/-- The last eight values. -/
def eightOf (c : Nat) : List Nat := (List.range 8).map fun i => c / 2 ^ (5 * (7 - i)) % 32
theorem eightOf_inj {c d : Nat} (hc : c < 1099511627776) (hd : d < 1099511627776) (h : eightOf c = eightOf d) : c = d := by
  simp only [eightOf, List.range, List.range.loop, List.map_cons, List.map_nil, List.cons.injEq, and_true, Nat.reduceSub, Nat.reduceMul, Nat.reducePow] at h
  omega

def X0 : Five := ⟨1056006543753, 730107360018, 118834127661, 236335490938, 430795026429⟩
theorem X0_at (m : Nat) : X0.at_ m = ((gN m : Nat) : Int) := by
  match m with
  | 0 => rfl
  | 1 => rfl
  | 2 => rfl
  | 3 => rfl
  | n + 4 => rfl
theorem mixI_nat (up c : Nat) (hu : up < 1099511627776) (hc : c < 1099511627776) : ∀ m, mixI X0 up c m = ((mixN up c m : Nat) : Int)
  | 0 => rfl
  | m + 1 => by
    have h2 : ((up : Int) / 2 ^ m) = ((up / 2 ^ m : Nat) : Int) := by simp
    have hle : up / 2 ^ m ≤ up := Nat.div_le_self _ _
    unfold mixI mixN
    rw [h2]
    generalize up / 2 ^ m = d at hle
    rw [Lib.u64_and1 _ (by omega) (by omega), mixI_nat up c hu hc m, X0_at, bits_xor_u64_nat _ _ (by have := mixN_lt up c hc m; omega) (by have := gN_lt m; omega)]
    by_cases h : d % 2 = 1
    · rw [if_pos h, if_pos (by omega)]
    · rw [if_neg h, if_neg (by omega)]
theorem stepI_nat (c : Nat) (v : UInt8) (hc : c < 1099511627776) : stepI X0 c v = ((turnN c v.toNat : Nat) : Int) := by
  have hv := v.toNat_lt
  have h1 : bits .and .u64 (c : Int) 34359738367 = ((c % 34359738368 : Nat) : Int) := by
    have h := bits_mask .u64 64 (by decide) wraps_u64 35 (by decide) (c : Int) (by omega) (by omega)
    have e : ((2 : Int) ^ 35 - 1) = 34359738367 := by decide
    rw [e] at h
    rw [h]
    omega
  have h2 : IntKind.u64.wrap (((c % 34359738368 : Nat) : Int) * 32) = ((c % 34359738368 * 32 : Nat) : Int) := by rw [IntKind.wrap_u64]; omega
  unfold stepI turnN
  rw [h1, h2, bits_xor_u64_nat _ _ (by omega) (by omega)]
  have h3 : ((c : Int) / 34359738368) = ((c / 34359738368 : Nat) : Int) := by omega
  rw [h3, mixI_nat _ _ (by omega) (Nat.xor_lt_two_pow (n := 40) (by omega) (by omega))]
end Go.Proofs.YtpaafkhlelljcaaDoor
