/-
  Texts joined: Step, ChkPure, BcPure. Conditions: those of each.
-/
import Derived.Test.YtocblkacdoahfaaGreatDoorJ18
import Derived.Laws.Bits64
import Derived.Lib.Zigzag
/-
  text.code.step, for the descriptors' code: how a checksum takes values in. Conditions: the numbers are below 2^64.
-/
namespace Go.Proofs.YtocblkacdoahfaaGreatDoor
open Go.RowKit

/-- The m-th of the five numbers. -/
structure Five where
  x0 : Int
  x1 : Int
  x2 : Int
  x3 : Int
  x4 : Int
def Five.at_ (X : Five) : Nat → Int
  | 0 => X.x0
  | 1 => X.x1
  | 2 => X.x2
  | 3 => X.x3
  | _ => X.x4

/-- Behind m of the five bits. -/
def mixI (X : Five) (up c : Int) : Nat → Int
  | 0 => c
  | m + 1 => if bits .and .u64 (up / 2 ^ m) 1 = 1 then bits .xor .u64 (mixI X up c m) (X.at_ m) else mixI X up c m
/-- A value more. -/
def stepI (X : Five) (c : Int) (v : UInt8) : Int := mixI X (c / 34359738368) (bits .xor .u64 (IntKind.u64.wrap (bits .and .u64 c 34359738367 * 32)) (v.toNat : Int)) 5

theorem bits_u64 (op : BinOp) (a b : Int) : 0 ≤ bits op .u64 a b ∧ bits op .u64 a b < 18446744073709551616 := by
  unfold bits
  have : ∀ n : Int, 0 ≤ IntKind.u64.wrap n ∧ IntKind.u64.wrap n < 18446744073709551616 := fun n => by rw [IntKind.wrap_u64]; omega
  exact this _
theorem mixI_bd (X : Five) (up c : Int) (h0 : 0 ≤ c) (h1 : c < 18446744073709551616) : ∀ m, 0 ≤ mixI X up c m ∧ mixI X up c m < 18446744073709551616
  | 0 => ⟨h0, h1⟩
  | m + 1 => by
    unfold mixI
    split
    · exact bits_u64 _ _ _
    · exact mixI_bd X up c h0 h1 m
theorem stepI_bd (X : Five) (c : Int) (v : UInt8) : 0 ≤ stepI X c v ∧ stepI X c v < 18446744073709551616 := by
  unfold stepI
  exact mixI_bd _ _ _ (bits_u64 _ _ _).1 (bits_u64 _ _ _).2 5

theorem mixy {X : Five} {up c : Int} (m : Nat) (d : Int) (hd : up / 2 ^ m = d) (h : (bits .and .u64 d 1 == 1) = true) : bits .xor .u64 (mixI X up c m) (X.at_ m) = mixI X up c (m + 1) := by
  rw [mixI, hd, if_pos (by simpa using h)]
theorem mixn {X : Five} {up c : Int} (m : Nat) (d : Int) (hd : up / 2 ^ m = d) (h : (bits .and .u64 d 1 == 1) = false) : mixI X up c m = mixI X up c (m + 1) := by
  rw [mixI, hd, if_neg (by simpa using h)]

def codeV (X : Five) : Value := .agg #[.int .i64 35, .int .u64 X.x0, .int .u64 X.x1, .int .u64 X.x2, .int .u64 X.x3, .int .u64 X.x4]

set_option maxRecDepth 100000 in
set_option maxHeartbeats 3200000 in
theorem step_any (B : Nat) (x : Value) (vs : List UInt8) (c : Int) (X : Five) (w : World) (hx : Byt w B x vs) (hB : B ≤ w.heap.size) (hl : vs.length ≤ 60000) (hc0 : 0 ≤ c) (hc1 : c < 18446744073709551616) :
    Calls Tryz.prog 86 #[codeV X, .int .u64 c, x] w fun e w' => e = .returned (.int .u64 (vs.foldl (stepI X) c)) ∧ Below w.heap.size w w' := by
  obtain ⟨A, cx, hxf⟩ := hx.form
  subst hxf
  have hX := Lib.hid hx
  clear hx
  unfold codeV
  obtain ⟨x0, x1, x2, x3, x4⟩ := X
  have i0 : ∀ w, (Instr.index 137 (.agg #[.int .u64 x0, .int .u64 x1, .int .u64 x2, .int .u64 x3, .int .u64 x4]) (.int .i64 0)).run Tryz.prog w = .ok (.int .u64 x0) w := fun _ => by kernel_rfl
  have i1 : ∀ w, (Instr.index 137 (.agg #[.int .u64 x0, .int .u64 x1, .int .u64 x2, .int .u64 x3, .int .u64 x4]) (.int .i64 1)).run Tryz.prog w = .ok (.int .u64 x1) w := fun _ => by kernel_rfl
  have i2 : ∀ w, (Instr.index 137 (.agg #[.int .u64 x0, .int .u64 x1, .int .u64 x2, .int .u64 x3, .int .u64 x4]) (.int .i64 2)).run Tryz.prog w = .ok (.int .u64 x2) w := fun _ => by kernel_rfl
  have i3 : ∀ w, (Instr.index 137 (.agg #[.int .u64 x0, .int .u64 x1, .int .u64 x2, .int .u64 x3, .int .u64 x4]) (.int .i64 3)).run Tryz.prog w = .ok (.int .u64 x3) w := fun _ => by kernel_rfl
  have i4 : ∀ w, (Instr.index 137 (.agg #[.int .u64 x0, .int .u64 x1, .int .u64 x2, .int .u64 x3, .int .u64 x4]) (.int .i64 4)).run Tryz.prog w = .ok (.int .u64 x4) w := fun _ => by kernel_rfl
  go_enter Tryz.func86, Tryz.ntmps86
  go_wp2_with fail
  go_loopw [14, 1] (fun j cc wr => ∃ (i : Nat) (k : Int), i ≤ vs.length ∧ j = .int .i64 i ∧ cc = .int .u64 k ∧ 0 ≤ k ∧ k < 18446744073709551616 ∧ Hid ((vs.drop i).foldl (stepI ⟨x0, x1, x2, x3, x4⟩) k = vs.foldl (stepI ⟨x0, x1, x2, x3, x4⟩) c) ∧ wr = w.alloc (.cells #[.int .i64 35, .int .u64 x0, .int .u64 x1, .int .u64 x2, .int .u64 x3, .int .u64 x4] 139)) (fun j _ _ => vs.length - (intOf j).toNat)
  case atStart => exact ⟨0, c, Nat.zero_le _, rfl, rfl, hc0, hc1, Lib.hid rfl, rfl⟩
  case round =>
    obtain ⟨i, k, hi, rfl, rfl, hk0, hk1, hfold, hw⟩ := hrel
    by_cases hlt : i < vs.length
    · obtain ⟨A', c', e0, _, _, _, h4⟩ := hX.out
      injection e0 with e1 e2 e3
      subst e1 e3
      obtain ⟨b, o, rfl, hb, hbc⟩ := h4 (by rintro rfl; simp at hlt)
      have hci := hbc i _ (List.getElem?_eq_getElem hlt)
      obtain ⟨q, hq⟩ : ∃ q, q = vs[i] := ⟨_, rfl⟩
      rw [← hq] at hci
      subst hw
      have hbi : ∀ o', (w.alloc o').cell? ⟨b, o + i, none⟩ = some (.int .u8 (q.toNat : Int)) := fun o' => (World.cell?_alloc_lt w _ _ (by show b < _; omega)).trans hci
      have hqw : IntKind.u64.wrap (q.toNat : Int) = q.toNat := by have := q.toNat_lt; rw [IntKind.wrap_u64]; omega
      have hnext : (vs.drop (i + 1)).foldl (stepI ⟨x0, x1, x2, x3, x4⟩) (stepI ⟨x0, x1, x2, x3, x4⟩ k q) = vs.foldl (stepI ⟨x0, x1, x2, x3, x4⟩) c := by
        rw [← hfold.out, List.drop_eq_getElem_cons hlt, List.foldl_cons, ← hq]
      have hbd := stepI_bd ⟨x0, x1, x2, x3, x4⟩ k q
      unfold stepI at hbd
      have HN := Lib.hid hnext
      have HQ := Lib.hid hq
      clear hci hbc h4 hq hnext hfold
      obtain ⟨up, hup⟩ : ∃ up, up = k / 34359738368 := ⟨_, rfl⟩
      obtain ⟨z, hz⟩ : ∃ z, z = bits .xor .u64 (IntKind.u64.wrap (bits .and .u64 k 34359738367 * 32)) (q.toNat : Int) := ⟨_, rfl⟩
      have hupd : 0 ≤ up ∧ up < 18446744073709551616 := by omega
      have HS : Hid (stepI ⟨x0, x1, x2, x3, x4⟩ k q = mixI ⟨x0, x1, x2, x3, x4⟩ up z 5) := Lib.hid (by rw [hup, hz]; rfl)
      rw [← hup, ← hz] at hbd
      go_wp2
      rw [← hz, ← hup]
      clear hz hup
      go_loopw [34, 1] (fun j cc wr => ∃ m : Nat, m ≤ 5 ∧ j = .int .i64 m ∧ cc = .int .u64 (mixI ⟨x0, x1, x2, x3, x4⟩ up z m) ∧ wr = w.alloc (.cells #[.int .i64 35, .int .u64 x0, .int .u64 x1, .int .u64 x2, .int .u64 x3, .int .u64 x4] 139)) (fun j _ _ => 5 - (intOf j).toNat)
      case atStart => exact ⟨0, by omega, rfl, rfl, rfl⟩
      case round =>
        obtain ⟨m, hm, rfl, rfl, rfl⟩ := hrel
        by_cases h5 : m < 5
        · obtain rfl | rfl | rfl | rfl | rfl : m = 0 ∨ m = 1 ∨ m = 2 ∨ m = 3 ∨ m = 4 := by omega
          all_goals go_wp2
          · rename_i ht
            have e := mixy (X := ⟨x0, x1, x2, x3, x4⟩) (up := up) (c := z) 0 up (by simp) ht
            exact ⟨⟨1, by omega, rfl, congrArg (Value.int .u64) e, trivial⟩, by simp [intOf]⟩
          · rename_i ht
            have e := mixn (X := ⟨x0, x1, x2, x3, x4⟩) (up := up) (c := z) 0 up (by simp) ht
            exact ⟨⟨1, by omega, rfl, congrArg (Value.int .u64) e, trivial⟩, by simp [intOf]⟩
          · rename_i ht
            have e := mixy (X := ⟨x0, x1, x2, x3, x4⟩) (up := up) (c := z) 1 (up / 2) (by simp) ht
            exact ⟨⟨2, by omega, rfl, congrArg (Value.int .u64) e, trivial⟩, by simp [intOf]⟩
          · rename_i ht
            have e := mixn (X := ⟨x0, x1, x2, x3, x4⟩) (up := up) (c := z) 1 (up / 2) (by simp) ht
            exact ⟨⟨2, by omega, rfl, congrArg (Value.int .u64) e, trivial⟩, by simp [intOf]⟩
          · rename_i ht
            have e := mixy (X := ⟨x0, x1, x2, x3, x4⟩) (up := up) (c := z) 2 (up / 4) (by simp) ht
            exact ⟨⟨3, by omega, rfl, congrArg (Value.int .u64) e, trivial⟩, by simp [intOf]⟩
          · rename_i ht
            have e := mixn (X := ⟨x0, x1, x2, x3, x4⟩) (up := up) (c := z) 2 (up / 4) (by simp) ht
            exact ⟨⟨3, by omega, rfl, congrArg (Value.int .u64) e, trivial⟩, by simp [intOf]⟩
          · rename_i ht
            have e := mixy (X := ⟨x0, x1, x2, x3, x4⟩) (up := up) (c := z) 3 (up / 8) (by simp) ht
            exact ⟨⟨4, by omega, rfl, congrArg (Value.int .u64) e, trivial⟩, by simp [intOf]⟩
          · rename_i ht
            have e := mixn (X := ⟨x0, x1, x2, x3, x4⟩) (up := up) (c := z) 3 (up / 8) (by simp) ht
            exact ⟨⟨4, by omega, rfl, congrArg (Value.int .u64) e, trivial⟩, by simp [intOf]⟩
          · rename_i ht
            have e := mixy (X := ⟨x0, x1, x2, x3, x4⟩) (up := up) (c := z) 4 (up / 16) (by simp) ht
            exact ⟨⟨5, by omega, rfl, congrArg (Value.int .u64) e, trivial⟩, by simp [intOf]⟩
          · rename_i ht
            have e := mixn (X := ⟨x0, x1, x2, x3, x4⟩) (up := up) (c := z) 4 (up / 16) (by simp) ht
            exact ⟨⟨5, by omega, rfl, congrArg (Value.int .u64) e, trivial⟩, by simp [intOf]⟩
        · have hm5 : m = 5 := by omega
          subst hm5
          go_wp2
          have hs := HS.out
          refine ⟨⟨i + 1, mixI ⟨x0, x1, x2, x3, x4⟩ up z 5, by omega, by go_num, rfl, hbd.1, hbd.2, ?_, trivial⟩, by simp [intOf]; omega⟩
          rw [← hs]
          exact HN
    · have hie : i = vs.length := by omega
      subst hw
      have HF := Lib.hid (hfold.out)
      go_wp2
      go_ret
      have hf := HF.out
      rw [List.drop_eq_nil_of_le (by omega)] at hf
      exact ⟨by rw [← hf]; rfl, (Below.refl _ _).alloc (Nat.le_refl _) _⟩

end Go.Proofs.YtocblkacdoahfaaGreatDoor

/-
  The checksum of a descriptor, on plain numbers: it is linear, and a byte that is another one makes another checksum. Conditions: none (plain mathematics).
-/
namespace Go.Proofs.YtocblkacdoahfaaGreatDoor
open Go.RowKit

/-- The m-th of the five numbers. -/
def gN : Nat → Nat
  | 0 => 1056006543753
  | 1 => 730107360018
  | 2 => 118834127661
  | 3 => 236335490938
  | _ => 430795026429
def mixN (up : Nat) (c : Nat) : Nat → Nat
  | 0 => c
  | m + 1 => if up / 2 ^ m % 2 = 1 then mixN up c m ^^^ gN m else mixN up c m
/-- A value more. -/
def turnN (c v : Nat) : Nat := mixN (c / 34359738368) ((c % 34359738368 * 32) ^^^ v) 5

theorem mixN_out (up c : Nat) : ∀ m, mixN up c m = c ^^^ mixN up 0 m
  | 0 => (Nat.xor_zero c).symm
  | m + 1 => by
    unfold mixN
    split
    · rw [mixN_out up c m, Nat.xor_assoc]
    · exact mixN_out up c m
theorem gN_lt (m : Nat) : gN m < 1099511627776 := by
  unfold gN
  split <;> omega
theorem mixN_lt (up c : Nat) (hc : c < 1099511627776) : ∀ m, mixN up c m < 1099511627776
  | 0 => hc
  | m + 1 => by
    unfold mixN
    have h := mixN_lt up c hc m
    split
    · exact Nat.xor_lt_two_pow (n := 40) h (gN_lt m)
    · exact h
theorem turnN_lt (c v : Nat) (hv : v < 1099511627776) : turnN c v < 1099511627776 :=
  mixN_lt _ _ (Nat.xor_lt_two_pow (n := 40) (by omega) hv) 5

theorem mix_xor : ∀ a : Fin 32, ∀ b : Fin 32, mixN (a.val ^^^ b.val) 0 5 = mixN a.val 0 5 ^^^ mixN b.val 0 5 := by decide +kernel
theorem mix_low : ∀ a : Fin 32, mixN a.val 0 5 % 32 = 0 → a.val = 0 := by decide +kernel

theorem turnN_out (c v : Nat) : turnN c v = turnN c 0 ^^^ v := by
  unfold turnN
  rw [mixN_out _ (_ ^^^ v), mixN_out _ (_ ^^^ 0), Nat.xor_zero, Nat.xor_assoc, Nat.xor_assoc, Nat.xor_comm v]
theorem turnN_xor (c d : Nat) (hc : c < 1099511627776) (hd : d < 1099511627776) : turnN (c ^^^ d) 0 = turnN c 0 ^^^ turnN d 0 := by
  unfold turnN
  simp only [Nat.xor_zero]
  rw [mixN_out _ (_ * 32), mixN_out (c / _) (_ * 32), mixN_out (d / _) (_ * 32)]
  have e1 : (c ^^^ d) / 34359738368 = c / 34359738368 ^^^ d / 34359738368 := by
    have := Nat.shiftRight_xor_distrib (a := c) (b := d) (i := 35)
    simpa [Nat.shiftRight_eq_div_pow] using this
  have e2 : (c ^^^ d) % 34359738368 = c % 34359738368 ^^^ d % 34359738368 := by
    have := Nat.xor_mod_two_pow (a := c) (b := d) (n := 35)
    simpa using this
  have e3 : (c % 34359738368 ^^^ d % 34359738368) * 32 = c % 34359738368 * 32 ^^^ d % 34359738368 * 32 := by
    have := Nat.shiftLeft_xor_distrib (a := c % 34359738368) (b := d % 34359738368) (i := 5)
    simpa [Nat.shiftLeft_eq] using this
  have e4 := mix_xor ⟨c / 34359738368, by omega⟩ ⟨d / 34359738368, by omega⟩
  dsimp only at e4
  rw [e1, e2, e3, e4]
  generalize c % 34359738368 * 32 = x
  generalize d % 34359738368 * 32 = y
  generalize mixN (c / 34359738368) 0 5 = p
  generalize mixN (d / 34359738368) 0 5 = q
  rw [Nat.xor_assoc, Nat.xor_assoc, ← Nat.xor_assoc y p, Nat.xor_comm y p, Nat.xor_assoc p y]
theorem xor_zero_eq {a b : Nat} (h : a ^^^ b = 0) : a = b := by
  have := congrArg (· ^^^ b) h
  simpa [Nat.xor_assoc] using this
theorem turnN_zero {d : Nat} (hd : d < 1099511627776) (h : turnN d 0 = 0) : d = 0 := by
  unfold turnN at h
  rw [Nat.xor_zero, mixN_out] at h
  have h1 := xor_zero_eq h
  have h2 := mix_low ⟨d / 34359738368, by omega⟩ (by dsimp only; rw [← h1]; omega)
  dsimp only at h2
  rw [h2] at h1
  have h3 : mixN 0 0 5 = 0 := by decide
  rw [h3] at h1
  omega
/-- The same value keeps two apart. -/
theorem turnN_apart {c d v : Nat} (hc : c < 1099511627776) (hd : d < 1099511627776) (hne : c ≠ d) : turnN c v ≠ turnN d v := by
  intro h
  rw [turnN_out c, turnN_out d] at h
  have h1 : turnN (c ^^^ d) 0 = 0 := by
    rw [turnN_xor c d hc hd]
    have := congrArg (· ^^^ v) h
    simp only [Nat.xor_assoc, Nat.xor_self, Nat.xor_zero] at this
    rw [this, Nat.xor_self]
  exact hne (xor_zero_eq (turnN_zero (Nat.xor_lt_two_pow (n := 40) hc hd) h1))
theorem turnN_small (d : Nat) (hd : d < 34359738368) : turnN d 0 = d * 32 := by
  unfold turnN
  have h3 : ∀ x, mixN 0 x 5 = x := fun x => by rw [mixN_out]; show x ^^^ 0 = x; exact Nat.xor_zero x
  rw [Nat.xor_zero, Nat.div_eq_of_lt hd, Nat.mod_eq_of_lt hd, h3]

/-- What has come: the sum, the group, and how many are in it. -/
structure ChkSt where
  c : Nat
  g : Nat
  k : Nat
def chk1 (s : ChkSt) (p : Nat) : ChkSt :=
  if s.k + 1 = 3 then ⟨turnN (turnN s.c (p % 32)) (3 * s.g + p / 32), 0, 0⟩ else ⟨turnN s.c (p % 32), 3 * s.g + p / 32, s.k + 1⟩
def chkAll (ps : List Nat) : ChkSt := ps.foldl chk1 ⟨1, 0, 0⟩
def chkEnd (s : ChkSt) : Nat := if 0 < s.k then turnN s.c s.g else s.c
def eight (c : Nat) : Nat := turnN (turnN (turnN (turnN (turnN (turnN (turnN (turnN c 0) 0) 0) 0) 0) 0) 0) 0
def chkN (ps : List Nat) : Nat := eight (chkEnd (chkAll ps)) ^^^ 1

structure ChkOk (s : ChkSt) : Prop where
  c : s.c < 1099511627776
  k : s.k < 3
  g : s.g ≤ if s.k = 0 then 0 else if s.k = 1 then 2 else 8
theorem ChkOk.g8 {s : ChkSt} (h : ChkOk s) : s.g ≤ 8 := by have := h.g; split at this <;> (try split at this) <;> omega
theorem chk1_ok {s : ChkSt} {p : Nat} (h : ChkOk s) (hp : p < 96) : ChkOk (chk1 s p) := by
  have hg := h.g
  have hk := h.k
  have h8 := h.g8
  unfold chk1
  split
  · exact ⟨turnN_lt _ _ (by omega), by show 0 < 3; omega, by simp⟩
  · next hk3 =>
    refine ⟨turnN_lt _ _ (by omega), by show s.k + 1 < 3; omega, ?_⟩
    show 3 * s.g + p / 32 ≤ if s.k + 1 = 0 then 0 else if s.k + 1 = 1 then 2 else 8
    rw [if_neg (by omega)]
    split
    · have h0 : s.k = 0 := by omega
      rw [if_pos h0] at hg
      omega
    · have h1 : ¬ s.k = 0 := by omega
      rw [if_neg h1, if_pos (by omega)] at hg
      omega
theorem chkSt0_ok : ChkOk ⟨1, 0, 0⟩ := ⟨by decide, by decide, by simp⟩
theorem chkFold_ok (ps : List Nat) (hp : ∀ p ∈ ps, p < 96) : ∀ s, ChkOk s → ChkOk (ps.foldl chk1 s) := by
  induction ps with
  | nil => exact fun s h => h
  | cons p ps ih => exact fun s h => ih (fun q hq => hp q (List.mem_cons_of_mem _ hq)) _ (chk1_ok h (hp p List.mem_cons_self))
theorem chkEnd_lt {s : ChkSt} (h : ChkOk s) : chkEnd s < 1099511627776 := by
  have := h.g8
  unfold chkEnd
  split
  · exact turnN_lt _ _ (by omega)
  · exact h.c
theorem eight_lt (c : Nat) : eight c < 1099511627776 := turnN_lt _ _ (by omega)
theorem chkN_lt (ps : List Nat) : chkN ps < 1099511627776 := Nat.xor_lt_two_pow (n := 40) (eight_lt _) (by decide)

/-- Two that part: in the sum, or within a group that isn't closed yet. -/
def Part (s t : ChkSt) : Prop := s.k = t.k ∧ (s.c ≠ t.c ∧ s.g = t.g ∨ 0 < s.k ∧ s.c ^^^ t.c < 1024 ∧ (s.k = 1 → s.c ^^^ t.c < 32) ∧ (s.c ≠ t.c ∨ s.g ≠ t.g))

theorem xor_eq_of {a b d : Nat} (h : a ^^^ b = d) : a = b ^^^ d := by
  rw [← h, Nat.xor_comm a b, ← Nat.xor_assoc, Nat.xor_self, Nat.zero_xor]
theorem diff_turn {c d a b : Nat} (hc : c < 1099511627776) (hd : d < 1099511627776) (hx : c ^^^ d < 34359738368) : turnN c a ^^^ turnN d b = (c ^^^ d) * 32 ^^^ (a ^^^ b) := by
  rw [turnN_out c, turnN_out d, ← turnN_small _ hx, turnN_xor c d hc hd]
  generalize turnN c 0 = x
  generalize turnN d 0 = y
  rw [Nat.xor_assoc, Nat.xor_assoc, ← Nat.xor_assoc a y, Nat.xor_comm a y, Nat.xor_assoc y a]
theorem ne_of_xor {a b : Nat} (h : a ^^^ b ≠ 0) : a ≠ b := by rintro rfl; exact h (Nat.xor_self a)
theorem diff_ne {c d a b : Nat} (hc : c < 1099511627776) (hd : d < 1099511627776) (hx : c ^^^ d < 34359738368) (ha : a < 32) (hb : b < 32) (hne : c ≠ d ∨ a ≠ b) : turnN c a ≠ turnN d b := by
  refine ne_of_xor ?_
  rw [diff_turn hc hd hx]
  intro h
  have h1 := xor_zero_eq h
  have h2 : a ^^^ b < 32 := Nat.xor_lt_two_pow (n := 5) ha hb
  have h3 : c ^^^ d = 0 := by omega
  have h4 : a ^^^ b = 0 := by omega
  rcases hne with h | h
  · exact h (xor_zero_eq h3)
  · exact h (xor_zero_eq h4)

theorem part_next {s t : ChkSt} {p : Nat} (hs : ChkOk s) (ht : ChkOk t) (hp : p < 96) (h : Part s t) : Part (chk1 s p) (chk1 t p) := by
  obtain ⟨hk, h⟩ := h
  have hs8 := hs.g8
  have ht8 := ht.g8
  have hk3 := hs.k
  unfold chk1
  rw [← hk]
  rcases h with ⟨hne, hg⟩ | ⟨hk0, hx, hx1, hne⟩
  · split
    · refine ⟨rfl, .inl ⟨?_, rfl⟩⟩
      show turnN (turnN s.c (p % 32)) (3 * s.g + p / 32) ≠ turnN (turnN t.c (p % 32)) (3 * t.g + p / 32)
      rw [hg]
      exact turnN_apart (turnN_lt _ _ (by omega)) (turnN_lt _ _ (by omega)) (turnN_apart hs.c ht.c hne)
    · refine ⟨rfl, .inl ⟨turnN_apart hs.c ht.c hne, ?_⟩⟩
      show 3 * s.g + p / 32 = 3 * t.g + p / 32
      rw [hg]
  · have hd := diff_turn (a := p % 32) (b := p % 32) hs.c ht.c (by omega)
    rw [Nat.xor_self, Nat.xor_zero] at hd
    have hnc : s.c ≠ t.c → turnN s.c (p % 32) ≠ turnN t.c (p % 32) := turnN_apart hs.c ht.c
    split
    · refine ⟨rfl, .inl ⟨?_, rfl⟩⟩
      show turnN (turnN s.c (p % 32)) (3 * s.g + p / 32) ≠ turnN (turnN t.c (p % 32)) (3 * t.g + p / 32)
      refine diff_ne (turnN_lt _ _ (by omega)) (turnN_lt _ _ (by omega)) (by rw [hd]; omega) (by omega) (by omega) ?_
      rcases hne with h | h
      · exact .inl (hnc h)
      · exact .inr (by omega)
    · refine ⟨rfl, .inr ⟨?_, ?_, ?_, ?_⟩⟩
      · show 0 < s.k + 1
        omega
      · show turnN s.c (p % 32) ^^^ turnN t.c (p % 32) < 1024
        rw [hd]
        have := hx1 (by omega)
        omega
      · intro h
        have h2 : s.k + 1 = 1 := h
        omega
      · rcases hne with h | h
        · exact .inl (hnc h)
        · refine .inr ?_
          show 3 * s.g + p / 32 ≠ 3 * t.g + p / 32
          omega
theorem part_first {s : ChkSt} {p q : Nat} (hs : ChkOk s) (hp : p < 96) (hq : q < 96) (hne : p ≠ q) : Part (chk1 s p) (chk1 s q) := by
  have hs8 := hs.g8
  have hx : (s.c ^^^ s.c) < 34359738368 := by rw [Nat.xor_self]; omega
  have hd := diff_turn (a := p % 32) (b := q % 32) hs.c hs.c hx
  rw [Nat.xor_self, Nat.zero_mul, Nat.zero_xor] at hd
  have hlt : (p % 32) ^^^ (q % 32) < 32 := Nat.xor_lt_two_pow (n := 5) (by omega) (by omega)
  have hor : turnN s.c (p % 32) ≠ turnN s.c (q % 32) ∨ 3 * s.g + p / 32 ≠ 3 * s.g + q / 32 := by
    by_cases h : p % 32 = q % 32
    · exact .inr (by omega)
    · exact .inl (diff_ne hs.c hs.c hx (by omega) (by omega) (.inr h))
  unfold chk1
  split
  · exact ⟨rfl, .inl ⟨diff_ne (turnN_lt _ _ (by omega)) (turnN_lt _ _ (by omega)) (by rw [hd]; omega) (by omega) (by omega) hor, rfl⟩⟩
  · refine ⟨rfl, .inr ⟨?_, ?_, fun _ => ?_, hor⟩⟩
    · show 0 < s.k + 1
      omega
    · show turnN s.c (p % 32) ^^^ turnN s.c (q % 32) < 1024
      rw [hd]
      omega
    · show turnN s.c (p % 32) ^^^ turnN s.c (q % 32) < 32
      rw [hd]
      exact hlt
theorem part_fold (ps : List Nat) (hp : ∀ p ∈ ps, p < 96) : ∀ s t, ChkOk s → ChkOk t → Part s t → Part (ps.foldl chk1 s) (ps.foldl chk1 t) := by
  induction ps with
  | nil => exact fun s t _ _ h => h
  | cons p ps ih =>
    intro s t hs ht h
    have hp0 := hp p List.mem_cons_self
    exact ih (fun q hq => hp q (List.mem_cons_of_mem _ hq)) _ _ (chk1_ok hs hp0) (chk1_ok ht hp0) (part_next hs ht hp0 h)
theorem part_end {s t : ChkSt} (hs : ChkOk s) (ht : ChkOk t) (h : Part s t) : chkEnd s ≠ chkEnd t := by
  have hs8 := hs.g8
  have ht8 := ht.g8
  obtain ⟨hk, h⟩ := h
  unfold chkEnd
  rw [← hk]
  rcases h with ⟨hne, hg⟩ | ⟨hk0, hx, hx1, hne⟩
  · rw [← hg]
    split
    · exact turnN_apart hs.c ht.c hne
    · exact hne
  · rw [if_pos hk0, if_pos hk0]
    exact diff_ne hs.c ht.c (by omega) (by omega) (by omega) hne
theorem eight_apart {c d : Nat} (hc : c < 1099511627776) (hd : d < 1099511627776) (h : c ≠ d) : eight c ≠ eight d := by
  have l : ∀ c, turnN c 0 < 1099511627776 := fun c => turnN_lt _ _ (by omega)
  unfold eight
  exact turnN_apart (l _) (l _) (turnN_apart (l _) (l _) (turnN_apart (l _) (l _) (turnN_apart (l _) (l _) (turnN_apart (l _) (l _) (turnN_apart (l _) (l _) (turnN_apart (l _) (l _) (turnN_apart hc hd h)))))))
/-- One position that is another one makes another sum. -/
theorem chkN_apart (xs ys : List Nat) (p q : Nat) (hx : ∀ a ∈ xs, a < 96) (hy : ∀ a ∈ ys, a < 96) (hp : p < 96) (hq : q < 96) (hne : p ≠ q) : chkN (xs ++ p :: ys) ≠ chkN (xs ++ q :: ys) := by
  have h0 := chkFold_ok xs hx _ chkSt0_ok
  have h1 := chk1_ok h0 hp
  have h2 := chk1_ok h0 hq
  unfold chkN chkAll
  rw [List.foldl_append, List.foldl_append, List.foldl_cons, List.foldl_cons]
  have hP := part_fold ys hy _ _ h1 h2 (part_first h0 hp hq hne)
  have ha := chkFold_ok ys hy _ h1
  have hb := chkFold_ok ys hy _ h2
  have he := eight_apart (chkEnd_lt ha) (chkEnd_lt hb) (part_end ha hb hP)
  intro h
  refine he ?_
  have := congrArg (· ^^^ 1) h
  simpa [Nat.xor_assoc] using this

/-- The last eight values. -/
def eightOf (c : Nat) : List Nat := (List.range 8).map fun i => c / 2 ^ (5 * (7 - i)) % 32
theorem eightOf_inj {c d : Nat} (hc : c < 1099511627776) (hd : d < 1099511627776) (h : eightOf c = eightOf d) : c = d := by
  simp only [eightOf, List.range, List.range.loop, List.map_cons, List.map_nil, List.cons.injEq, and_true, Nat.reduceSub, Nat.reduceMul, Nat.reducePow] at h
  omega

def X0 : Five := ⟨1056006543753, 730107360018, 118834127661, 236335490938, 430795026429⟩
theorem X0_at (m : Nat) : X0.at_ m = ((gN m : Nat) : Int) := by
  match m with
  | 0 => rfl
  | 1 => rfl
  | 2 => rfl
  | 3 => rfl
  | n + 4 => rfl
theorem mixI_nat (up c : Nat) (hu : up < 1099511627776) (hc : c < 1099511627776) : ∀ m, mixI X0 up c m = ((mixN up c m : Nat) : Int)
  | 0 => rfl
  | m + 1 => by
    have h2 : ((up : Int) / 2 ^ m) = ((up / 2 ^ m : Nat) : Int) := by simp
    have hle : up / 2 ^ m ≤ up := Nat.div_le_self _ _
    unfold mixI mixN
    rw [h2]
    generalize up / 2 ^ m = d at hle
    rw [Lib.u64_and1 _ (by omega) (by omega), mixI_nat up c hu hc m, X0_at, bits_xor_u64_nat _ _ (by have := mixN_lt up c hc m; omega) (by have := gN_lt m; omega)]
    by_cases h : d % 2 = 1
    · rw [if_pos h, if_pos (by omega)]
    · rw [if_neg h, if_neg (by omega)]
theorem stepI_nat (c : Nat) (v : UInt8) (hc : c < 1099511627776) : stepI X0 c v = ((turnN c v.toNat : Nat) : Int) := by
  have hv := v.toNat_lt
  have h1 : bits .and .u64 (c : Int) 34359738367 = ((c % 34359738368 : Nat) : Int) := by
    have h := bits_mask .u64 64 (by decide) wraps_u64 35 (by decide) (c : Int) (by omega) (by omega)
    have e : ((2 : Int) ^ 35 - 1) = 34359738367 := by decide
    rw [e] at h
    rw [h]
    omega
  have h2 : IntKind.u64.wrap (((c % 34359738368 : Nat) : Int) * 32) = ((c % 34359738368 * 32 : Nat) : Int) := by rw [IntKind.wrap_u64]; omega
  unfold stepI turnN
  rw [h1, h2, bits_xor_u64_nat _ _ (by omega) (by omega)]
  have h3 : ((c : Int) / 34359738368) = ((c / 34359738368 : Nat) : Int) := by omega
  rw [h3, mixI_nat _ _ (by omega) (Nat.xor_lt_two_pow (n := 40) (by omega) (by omega))]
end Go.Proofs.YtocblkacdoahfaaGreatDoor

/-
  The checksum of bech32, on plain numbers: it is linear; which six values close it; and a value that is another one is told. Conditions: none (plain mathematics).
-/
namespace Go.Proofs.YtocblkacdoahfaaGreatDoor
open Go.RowKit

/-- The m-th of the five numbers. -/
def gB : Nat → Nat
  | 0 => 996825010
  | 1 => 642813549
  | 2 => 513874426
  | 3 => 1027748829
  | _ => 705979059
def mixB (up : Nat) (c : Nat) : Nat → Nat
  | 0 => c
  | m + 1 => if up / 2 ^ m % 2 = 1 then mixB up c m ^^^ gB m else mixB up c m
/-- A value more. -/
def turnB (c v : Nat) : Nat := mixB (c / 33554432) ((c % 33554432 * 32) ^^^ v) 5

theorem mixB_out (up c : Nat) : ∀ m, mixB up c m = c ^^^ mixB up 0 m
  | 0 => (Nat.xor_zero c).symm
  | m + 1 => by
    unfold mixB
    split
    · rw [mixB_out up c m, Nat.xor_assoc]
    · exact mixB_out up c m
theorem gB_lt (m : Nat) : gB m < 1073741824 := by
  unfold gB
  split <;> omega
theorem mixB_lt (up c : Nat) (hc : c < 1073741824) : ∀ m, mixB up c m < 1073741824
  | 0 => hc
  | m + 1 => by
    unfold mixB
    have h := mixB_lt up c hc m
    split
    · exact Nat.xor_lt_two_pow (n := 30) h (gB_lt m)
    · exact h
theorem turnB_lt (c v : Nat) (hv : v < 1073741824) : turnB c v < 1073741824 :=
  mixB_lt _ _ (Nat.xor_lt_two_pow (n := 30) (by omega) hv) 5

theorem mixB_xor : ∀ a : Fin 32, ∀ b : Fin 32, mixB (a.val ^^^ b.val) 0 5 = mixB a.val 0 5 ^^^ mixB b.val 0 5 := by decide +kernel
theorem mixB_low : ∀ a : Fin 32, mixB a.val 0 5 % 32 = 0 → a.val = 0 := by decide +kernel

theorem turnB_out (c v : Nat) : turnB c v = turnB c 0 ^^^ v := by
  unfold turnB
  rw [mixB_out _ (_ ^^^ v), mixB_out _ (_ ^^^ 0), Nat.xor_zero, Nat.xor_assoc, Nat.xor_assoc, Nat.xor_comm v]
theorem turnB_xor (c d : Nat) (hc : c < 1073741824) (hd : d < 1073741824) : turnB (c ^^^ d) 0 = turnB c 0 ^^^ turnB d 0 := by
  unfold turnB
  simp only [Nat.xor_zero]
  rw [mixB_out _ (_ * 32), mixB_out (c / _) (_ * 32), mixB_out (d / _) (_ * 32)]
  have e1 : (c ^^^ d) / 33554432 = c / 33554432 ^^^ d / 33554432 := by
    have := Nat.shiftRight_xor_distrib (a := c) (b := d) (i := 25)
    simpa [Nat.shiftRight_eq_div_pow] using this
  have e2 : (c ^^^ d) % 33554432 = c % 33554432 ^^^ d % 33554432 := by
    have := Nat.xor_mod_two_pow (a := c) (b := d) (n := 25)
    simpa using this
  have e3 : (c % 33554432 ^^^ d % 33554432) * 32 = c % 33554432 * 32 ^^^ d % 33554432 * 32 := by
    have := Nat.shiftLeft_xor_distrib (a := c % 33554432) (b := d % 33554432) (i := 5)
    simpa [Nat.shiftLeft_eq] using this
  have e4 := mixB_xor ⟨c / 33554432, by omega⟩ ⟨d / 33554432, by omega⟩
  dsimp only at e4
  rw [e1, e2, e3, e4]
  generalize c % 33554432 * 32 = x
  generalize d % 33554432 * 32 = y
  generalize mixB (c / 33554432) 0 5 = p
  generalize mixB (d / 33554432) 0 5 = q
  rw [Nat.xor_assoc, Nat.xor_assoc, ← Nat.xor_assoc y p, Nat.xor_comm y p, Nat.xor_assoc p y]
theorem turnB_zero {d : Nat} (hd : d < 1073741824) (h : turnB d 0 = 0) : d = 0 := by
  unfold turnB at h
  rw [Nat.xor_zero, mixB_out] at h
  have h1 := xor_zero_eq h
  have h2 := mixB_low ⟨d / 33554432, by omega⟩ (by dsimp only; rw [← h1]; omega)
  dsimp only at h2
  rw [h2] at h1
  have h3 : mixB 0 0 5 = 0 := by decide
  rw [h3] at h1
  omega
/-- The same value keeps two apart. -/
theorem turnB_apart {c d v : Nat} (hc : c < 1073741824) (hd : d < 1073741824) (hne : c ≠ d) : turnB c v ≠ turnB d v := by
  intro h
  rw [turnB_out c, turnB_out d] at h
  have h1 : turnB (c ^^^ d) 0 = 0 := by
    rw [turnB_xor c d hc hd]
    have := congrArg (· ^^^ v) h
    simp only [Nat.xor_assoc, Nat.xor_self, Nat.xor_zero] at this
    rw [this, Nat.xor_self]
  exact hne (xor_zero_eq (turnB_zero (Nat.xor_lt_two_pow (n := 30) hc hd) h1))
theorem turnB_small (d : Nat) (hd : d < 33554432) : turnB d 0 = d * 32 := by
  unfold turnB
  have h3 : ∀ x, mixB 0 x 5 = x := fun x => by rw [mixB_out]; show x ^^^ 0 = x; exact Nat.xor_zero x
  rw [Nat.xor_zero, Nat.div_eq_of_lt hd, Nat.mod_eq_of_lt hd, h3]


/-- Values of bytes, one behind the other. -/
def turnsB (c : Nat) (vs : List UInt8) : Nat := vs.foldl (fun c v => turnB c v.toNat) c
theorem turnsB_nil (c : Nat) : turnsB c [] = c := rfl
theorem turnsB_cons (c : Nat) (v : UInt8) (vs : List UInt8) : turnsB c (v :: vs) = turnsB (turnB c v.toNat) vs := rfl
theorem turnsB_append (c : Nat) (a b : List UInt8) : turnsB c (a ++ b) = turnsB (turnsB c a) b := by unfold turnsB; rw [List.foldl_append]
theorem turnsB_lt : ∀ (vs : List UInt8) (c : Nat), c < 1073741824 → turnsB c vs < 1073741824
  | [], _, h => h
  | v :: vs, c, _ => turnsB_lt vs _ (turnB_lt _ _ (by have := v.toNat_lt; omega))

/-- The same values keep two apart, by what zeros make of their difference. -/
theorem turnsB_diff : ∀ (vs : List UInt8) (c d : Nat), c < 1073741824 → d < 1073741824 → turnsB c vs ^^^ turnsB d vs = turnsB (c ^^^ d) (vs.map fun _ => 0)
  | [], _, _, _, _ => rfl
  | v :: vs, c, d, hc, hd => by
    have hv := v.toNat_lt
    rw [turnsB_cons, turnsB_cons, turnsB_diff vs _ _ (turnB_lt _ _ (by omega)) (turnB_lt _ _ (by omega)), List.map_cons, turnsB_cons]
    have e : turnB c v.toNat ^^^ turnB d v.toNat = turnB (c ^^^ d) (0 : UInt8).toNat := by
      show _ = turnB (c ^^^ d) 0
      rw [turnB_xor c d hc hd, turnB_out c, turnB_out d, Nat.xor_assoc, Nat.xor_comm v.toNat, Nat.xor_assoc, Nat.xor_self, Nat.xor_zero]
    rw [e]

theorem mul32_xor (y v : Nat) (hv : v < 32) : y * 32 ^^^ v = y * 32 + v := by
  have e1 : (y * 32 ^^^ v) / 32 = y * 32 / 32 ^^^ v / 32 := by
    have := Nat.shiftRight_xor_distrib (a := y * 32) (b := v) (i := 5)
    simpa [Nat.shiftRight_eq_div_pow] using this
  have e2 : (y * 32 ^^^ v) % 32 = y * 32 % 32 ^^^ v % 32 := by
    have := Nat.xor_mod_two_pow (a := y * 32) (b := v) (n := 5)
    simpa using this
  rw [Nat.mul_div_cancel _ (by omega), Nat.div_eq_of_lt hv, Nat.xor_zero] at e1
  rw [Nat.mul_mod_left, Nat.zero_xor] at e2
  omega

/-- A number and a value more: the number's zeros, xored with what the low bits have. -/
theorem turnB_more {x y v : Nat} (hx : x < 1073741824) (hy : y < 33554432) (hv : v < 32) : turnB (x ^^^ y) v = turnB x 0 ^^^ (y * 32 + v) := by
  rw [turnB_out, turnB_xor x y hx (by omega), turnB_small y hy, Nat.xor_assoc, mul32_xor y v hv]

/-- The number that values of five bits make. -/
def packN (vs : List UInt8) : Nat := vs.foldl (fun a v => a * 32 + v.toNat) 0
def zeros6 : List UInt8 := [0, 0, 0, 0, 0, 0]
def six (c : Nat) : Nat := turnsB c zeros6
theorem six_lt (c : Nat) (h : c < 1073741824) : six c < 1073741824 := turnsB_lt _ _ h
theorem turns_six {c : Nat} (v0 v1 v2 v3 v4 v5 : UInt8) (h0 : v0.toNat < 32) (h1 : v1.toNat < 32) (h2 : v2.toNat < 32) (h3 : v3.toNat < 32) (h4 : v4.toNat < 32) (h5 : v5.toNat < 32) :
    turnsB c [v0, v1, v2, v3, v4, v5] = six c ^^^ packN [v0, v1, v2, v3, v4, v5] := by
  have l : ∀ c, turnB c 0 < 1073741824 := fun c => turnB_lt _ _ (by omega)
  have z : (0 : UInt8).toNat = 0 := rfl
  unfold six zeros6 turnsB packN
  simp only [List.foldl_cons, List.foldl_nil, z, Nat.zero_mul, Nat.zero_add]
  rw [turnB_out c, turnB_more (l _) (by omega) h1, turnB_more (l _) (by omega) h2, turnB_more (l _) (by omega) h3, turnB_more (l _) (by omega) h4, turnB_more (l _) (by omega) h5]

/-- The six values of a number. -/
def sixOf (c : Nat) : List UInt8 := (List.range 6).map fun i => b8 ((c / 2 ^ (5 * (5 - i)) % 32 : Nat) : Int)
theorem sixOf_eq (c : Nat) : sixOf c = [b8 ((c / 33554432 % 32 : Nat) : Int), b8 ((c / 1048576 % 32 : Nat) : Int), b8 ((c / 32768 % 32 : Nat) : Int), b8 ((c / 1024 % 32 : Nat) : Int), b8 ((c / 32 % 32 : Nat) : Int), b8 ((c % 32 : Nat) : Int)] := by
  simp only [sixOf, List.range, List.range.loop, List.map_cons, List.map_nil, Nat.reduceSub, Nat.reduceMul, Nat.reducePow, Nat.div_one]
theorem b8_nat32 (n : Nat) (h : n < 256) : (b8 (n : Int)).toNat = n := by have := b8_toNat (n : Int); omega
theorem sixOf_length (c : Nat) : (sixOf c).length = 6 := by rw [sixOf_eq]; rfl
theorem sixOf_small (c : Nat) : ∀ v ∈ sixOf c, v.toNat < 32 := by
  intro v hv
  unfold sixOf at hv
  obtain ⟨i, _, rfl⟩ := List.mem_map.1 hv
  have h : c / 2 ^ (5 * (5 - i)) % 32 < 32 := Nat.mod_lt _ (by omega)
  rw [b8_nat32 _ (by omega)]
  exact h
theorem pack_six (c : Nat) (hc : c < 1073741824) : packN (sixOf c) = c := by
  rw [sixOf_eq]
  unfold packN
  simp only [List.foldl_cons, List.foldl_nil]
  rw [b8_nat32 _ (by omega), b8_nat32 _ (by omega), b8_nat32 _ (by omega), b8_nat32 _ (by omega), b8_nat32 _ (by omega), b8_nat32 _ (by omega)]
  omega
theorem list6 {l : List UInt8} (h : l.length = 6) : ∃ a b c d e f, l = [a, b, c, d, e, f] := by
  match l, h with
  | [a, b, c, d, e, f], _ => exact ⟨a, b, c, d, e, f, rfl⟩
theorem six_pack {l : List UInt8} (h : l.length = 6) (hs : ∀ v ∈ l, v.toNat < 32) : sixOf (packN l) = l ∧ packN l < 1073741824 := by
  obtain ⟨a, b, c, d, e, f, rfl⟩ := list6 h
  have ha := hs a (by simp)
  have hb := hs b (by simp)
  have hc := hs c (by simp)
  have hd := hs d (by simp)
  have he := hs e (by simp)
  have hf := hs f (by simp)
  have hp : packN [a, b, c, d, e, f] = ((((a.toNat * 32 + b.toNat) * 32 + c.toNat) * 32 + d.toNat) * 32 + e.toNat) * 32 + f.toNat := by
    unfold packN
    simp only [List.foldl_cons, List.foldl_nil, Nat.zero_mul, Nat.zero_add]
  refine ⟨?_, by rw [hp]; omega⟩
  rw [sixOf_eq, hp]
  have k : ∀ (n : Nat) (x : UInt8), n = x.toNat → b8 (n : Int) = x := fun n x h => by
    apply UInt8.toNat_inj.1
    rw [h, b8_nat32 _ x.toNat_lt]
  rw [k _ a (by omega), k _ b (by omega), k _ c (by omega), k _ d (by omega), k _ e (by omega), k _ f (by omega)]
theorem turns_six_any {c : Nat} {l : List UInt8} (h : l.length = 6) (hs : ∀ v ∈ l, v.toNat < 32) : turnsB c l = six c ^^^ packN l := by
  obtain ⟨v0, v1, v2, v3, v4, v5, rfl⟩ := list6 h
  exact turns_six _ _ _ _ _ _ (hs _ (by simp)) (hs _ (by simp)) (hs _ (by simp)) (hs _ (by simp)) (hs _ (by simp)) (hs _ (by simp))
theorem xor_move {a b k : Nat} : a ^^^ b = k ↔ b = a ^^^ k := by
  constructor
  · rintro rfl
    rw [← Nat.xor_assoc, Nat.xor_self, Nat.zero_xor]
  · rintro rfl
    rw [← Nat.xor_assoc, Nat.xor_self, Nat.zero_xor]
/-- The six values that close a sum. -/
theorem six_close {c k : Nat} (hc : c < 1073741824) (hk : k < 1073741824) {l : List UInt8} (h : l.length = 6) (hs : ∀ v ∈ l, v.toNat < 32) : turnsB c l = k ↔ l = sixOf (six c ^^^ k) := by
  rw [turns_six_any h hs, xor_move]
  obtain ⟨h1, h2⟩ := six_pack h hs
  have h3 : six c ^^^ k < 1073741824 := Nat.xor_lt_two_pow (n := 30) (six_lt c hc) hk
  constructor
  · intro e
    rw [← h1, e]
  · intro e
    rw [e, pack_six _ h3]

/-- A part for people, as values. -/
def expandB (hrp : List UInt8) : List UInt8 := hrp.map (fun b => b8 ((b.toNat / 32 : Nat) : Int)) ++ [0] ++ hrp.map (fun b => b8 ((b.toNat % 32 : Nat) : Int))
def sumB (hrp data : List UInt8) : Nat := turnsB (turnsB 1 (expandB hrp)) data
theorem sumB_lt (hrp data : List UInt8) : sumB hrp data < 1073741824 := turnsB_lt _ _ (turnsB_lt _ _ (by omega))
/-- The number that the last xor is with. -/
def lastX (m : Bool) : Nat := if m then 734539939 else 1
theorem lastX_lt (m : Bool) : lastX m < 1073741824 := by unfold lastX; split <;> omega
/-- The six values of the checksum. -/
def closeB (hrp data : List UInt8) (m : Bool) : List UInt8 := sixOf (sumB hrp (data ++ zeros6) ^^^ lastX m)
theorem closeB_length (hrp data : List UInt8) (m : Bool) : (closeB hrp data m).length = 6 := sixOf_length _
theorem closeB_small (hrp data : List UInt8) (m : Bool) : ∀ v ∈ closeB hrp data m, v.toNat < 32 := sixOf_small _
theorem close_iff (hrp data s : List UInt8) (m : Bool) (h : s.length = 6) (hs : ∀ v ∈ s, v.toNat < 32) : s = closeB hrp data m ↔ sumB hrp (data ++ s) = lastX m := by
  unfold closeB sumB
  rw [turnsB_append, turnsB_append, six_close (turnsB_lt _ _ (turnsB_lt _ _ (by omega))) (lastX_lt m) h hs]
  rfl
theorem sum_close (hrp data : List UInt8) (m : Bool) : sumB hrp (data ++ closeB hrp data m) = lastX m :=
  (close_iff hrp data _ m (closeB_length _ _ _) (closeB_small _ _ _)).1 rfl

/-- What a difference becomes. -/
def runB : Nat → Nat → Nat
  | 0, d => d
  | k + 1, d => runB k (turnB d 0)
theorem turnsB_zeros : ∀ (vs : List UInt8) (d : Nat), turnsB d (vs.map fun _ => 0) = runB vs.length d
  | [], _ => rfl
  | _ :: vs, d => by
    rw [List.map_cons, turnsB_cons, turnsB_zeros vs]
    rfl
def runOk (n d : Nat) : Bool := match n with
  | 0 => true
  | n + 1 => d != 0 && d != 734539938 && runOk n (turnB d 0)
theorem runOk_spec : ∀ (n d : Nat), runOk n d = true → ∀ k, k < n → runB k d ≠ 0 ∧ runB k d ≠ 734539938
  | 0, _, _, _, h => absurd h (Nat.not_lt_zero _)
  | n + 1, d, h, k, hk => by
    unfold runOk at h
    simp only [Bool.and_eq_true, bne_iff_ne, ne_eq] at h
    match k with
    | 0 => exact ⟨h.1.1, h.1.2⟩
    | k + 1 => exact runOk_spec n _ h.2 k (by omega)
theorem runs_ok : (List.range 31).all (fun i => runOk 100 (i + 1)) = true := by decide +kernel
/-- A value that is another one, and no more than 99 behind it: the sum is neither of the two. -/
theorem one_told (hrp xs ys : List UInt8) (v v' : UInt8) (hv : v.toNat < 32) (hv' : v'.toNat < 32) (hne : v ≠ v') (hl : ys.length < 100) (m n : Bool) (h : sumB hrp (xs ++ v :: ys) = lastX m) : sumB hrp (xs ++ v' :: ys) ≠ lastX n := by
  intro h'
  have hc : turnsB (turnsB 1 (expandB hrp)) xs < 1073741824 := turnsB_lt _ _ (turnsB_lt _ _ (by omega))
  unfold sumB at h h'
  rw [turnsB_append, turnsB_cons] at h h'
  generalize turnsB (turnsB 1 (expandB hrp)) xs = c at h h' hc
  have hd := turnsB_diff ys (turnB c v.toNat) (turnB c v'.toNat) (turnB_lt _ _ (by omega)) (turnB_lt _ _ (by omega))
  have e : turnB c v.toNat ^^^ turnB c v'.toNat = v.toNat ^^^ v'.toNat := by
    rw [turnB_out c v.toNat, turnB_out c v'.toNat, Nat.xor_assoc, Nat.xor_comm v.toNat, Nat.xor_assoc, ← Nat.xor_assoc, Nat.xor_self, Nat.zero_xor, Nat.xor_comm]
  rw [e, turnsB_zeros, h, h'] at hd
  have hlt : v.toNat ^^^ v'.toNat < 32 := Nat.xor_lt_two_pow (n := 5) hv hv'
  have hpos : v.toNat ^^^ v'.toNat ≠ 0 := fun h0 => hne (UInt8.toNat_inj.1 (xor_zero_eq h0))
  have hok := runs_ok
  rw [List.all_eq_true] at hok
  have hk := hok ((v.toNat ^^^ v'.toNat) - 1) (List.mem_range.2 (by omega))
  rw [Nat.sub_add_cancel (by omega)] at hk
  obtain ⟨k1, k2⟩ := runOk_spec 100 _ hk ys.length hl
  cases m <;> cases n
  · exact k1 hd.symm
  · exact k2 hd.symm
  · exact k2 hd.symm
  · exact k1 hd.symm
theorem lastX_apart : lastX true ≠ lastX false := by decide
end Go.Proofs.YtocblkacdoahfaaGreatDoor
