/-
  The reference's decimal numerals, and its way to write an amount: the same text as the program's. Conditions: none.
-/
import Derived.Test.YtopeblaiifkmoaaDoorAmtTxt
import Derived.Deep.RegionWith
namespace Go.Proofs.YtopeblaiifkmoaaDoor
open Go.RowKit

def decF : Nat → Nat → Int → List UInt8
  | 0, _, _ => []
  | f + 1, n, l => if n < 10 ∧ l ≤ 1 then [UInt8.ofNat (48 + n)] else decF f (n / 10) (l - 1) ++ [UInt8.ofNat (48 + n % 10)]
theorem decF_eq : ∀ (f n : Nat) (l : Int), n < 10 ^ f → l ≤ f → 1 ≤ f → decF f n l = List.replicate (l.toNat - Lib.nDigits n) 48 ++ Lib.decDigits n
  | 0, _, _, _, _, h => absurd h (by omega)
  | f + 1, n, l, h, hl, _ => by
    unfold decF
    by_cases hb : n < 10 ∧ l ≤ 1
    · rw [if_pos hb, Lib.nDigits_small hb.1, show l.toNat - 1 = 0 by omega, Lib.decDigits_one hb.1]
      rfl
    · rw [if_neg hb]
      have hf : 1 ≤ f := by
        rcases f with _ | f
        · simp at h; omega
        · omega
      rw [decF_eq f (n / 10) (l - 1) (by rw [Nat.pow_succ] at h; omega) (by omega) hf]
      by_cases h10 : n < 10
      · have e0 : n / 10 = 0 := by omega
        have e1 : n % 10 = n := by omega
        rw [e0, e1, Lib.nDigits_small h10, Lib.decDigits_one h10, Lib.nDigits_small (by omega), Lib.decDigits_one (by omega)]
        have : l.toNat - 1 = ((l - 1).toNat - 1) + 1 := by omega
        rw [this, List.replicate_succ']
        rfl
      · rw [Lib.nDigits_big h10]
        have e2 : Lib.decDigits n = Lib.decDigits (n / 10) ++ [UInt8.ofNat (48 + n % 10)] := by
          conv => lhs; rw [Lib.decDigits, dif_neg h10]
        rw [e2, List.append_assoc, show l.toNat - (Lib.nDigits (n / 10) + 1) = (l - 1).toNat - Lib.nDigits (n / 10) by omega]

theorem decF_len (f n : Nat) (l : Int) : (decF f n l).length ≤ f := by
  induction f generalizing n l with
  | zero => simp [decF]
  | succ f ih =>
    unfold decF
    split
    · simp
    · have := ih (n / 10) (l - 1)
      simp; omega

/-- A byte that has just been laid, as a text. -/
theorem one_str (W : World) (x : Int) (h0 : 0 ≤ x) (h1 : x ≤ 255) :
    (convert 55 9 (.slice (some ⟨W.heap.size, 0, none⟩) 1 1)).run Tryd.prog (W.alloc (.cells #[.int .u8 x] 5)) = .ok (.string ⟨#[UInt8.ofNat x.toNat]⟩) (W.alloc (.cells #[.int .u8 x] 5)) := by
  have hx : [Value.int .u8 x] = [UInt8.ofNat x.toNat].map bv := by
    show [Value.int .u8 x] = [Value.int .u8 ((UInt8.ofNat x.toNat).toNat : Int)]
    rw [UInt8.toNat_ofNat']
    congr 2
    omega
  exact run_string_of (P := Tryd.prog) _ 55 9 5 Tryd.underlying55 Tryd.underlying5 Tryd.underlying9 _ _ _ (Byt.made W 5 _ [UInt8.ofNat x.toNat] hx (by unfold maxLen; simp))

theorem byte_str (x : Int) (h0 : 0 ≤ x) (h1 : x ≤ 255) (W : World) (b : Nat) (h : W.cell? ⟨b, 0, none⟩ = some (.int .u8 x)) :
    (convert 55 9 (.slice (some ⟨b, 0, none⟩) 1 1)).run Tryd.prog W = .ok (.string ⟨#[UInt8.ofNat x.toNat]⟩) W := by
  refine run_string_of (P := Tryd.prog) _ 55 9 5 Tryd.underlying55 Tryd.underlying5 Tryd.underlying9 (b + 1) _ [UInt8.ofNat x.toNat] ⟨_, 1, rfl, Nat.le_refl _, by unfold maxLen; omega, (by intro h; cases h), fun _ => ⟨b, 0, rfl, by omega, fun j u hu => ?_⟩⟩
  rcases j with _ | j
  · simp only [List.getElem?_cons_zero, Option.some.injEq] at hu
    subst hu
    rw [Nat.zero_add, h]
    show some (Value.int .u8 x) = some (Value.int .u8 ((UInt8.ofNat x.toNat).toNat : Int))
    rw [UInt8.toNat_ofNat']
    congr 2
    omega
  · simp at hu
theorem made_cell {W w1 : World} {x : Value} {T : TypeId} (hb : Below (W.alloc (.cells #[x] T)).heap.size (W.alloc (.cells #[x] T)) w1) : w1.cell? ⟨W.heap.size, 0, none⟩ = some x :=
  (hb.cell (p := ⟨W.heap.size, 0, none⟩) (by simp)).trans (cell_of_row _ _ 0 _ _ _ (heap_alloc_new W _))

theorem made_cell' {W w1 : World} {x : Value} {T : TypeId} (hb : Below (W.alloc (.cells #[x] T)).drew.heap.size (W.alloc (.cells #[x] T)).drew w1) : w1.cell? ⟨W.heap.size, 0, none⟩ = some x :=
  (hb.cell (p := ⟨W.heap.size, 0, none⟩) (by simp)).trans (cell_of_row _ _ 0 _ _ _ (heap_alloc_new W _))

theorem below_drew {w w1 : World} (h : Below w.drew.heap.size w.drew w1) : Below w.heap.size w w1 := ⟨h.os, h.tape, h.output, h.size, h.block⟩
theorem below_made {w w1 : World} {o : Obj} (h : Below (w.alloc o).drew.heap.size (w.alloc o).drew w1) : Below w.heap.size w w1 :=
  (((Below.refl _ w).alloc (Nat.le_refl _) o)).trans ⟨h.os, h.tape, h.output, Nat.le_trans (by simp) h.size, fun k hk => h.block k (Nat.lt_of_lt_of_le hk (by simp))⟩
theorem below_made' {w w1 : World} {o : Obj} (h : Below (w.alloc o).heap.size (w.alloc o) w1) : Below w.heap.size w w1 :=
  (((Below.refl _ w).alloc (Nat.le_refl _) o)).trans (h.mono (by simp))
theorem dec_join {D : ByteArray} {l : List UInt8} {c : UInt8} (hD : D = ⟨l.toArray⟩) : D ++ ⟨#[c]⟩ = ⟨(l ++ [c]).toArray⟩ := by
  apply Go.WideShapes.bytes_inj
  rw [hD]
  simp

set_option maxHeartbeats 1600000 in
theorem decimal_any : ∀ (f n : Nat) (l : Int) (w : World), f ≤ 18 → n < 10 ^ f → l ≤ f → -30 ≤ l - f → 1 ≤ f →
    Calls Tryd.prog 32 #[.int .i64 n, .int .i64 l] w fun e w' => e = .returned (.string ⟨(decF f n l).toArray⟩) ∧ Below w.heap.size w w'
  | 0, _, _, _, _, _, _, _, h => absurd h (by omega)
  | f + 1, n, l, w, hf18, hn, hl, hl2, _ => by
    have h18 : (10 : Nat) ^ (f + 1) ≤ 10 ^ 18 := Nat.pow_le_pow_right (by omega) hf18
    have hn18 : n ≤ 1000000000000000000 := by omega
    by_cases hb : n < 10 ∧ l ≤ 1
    · obtain ⟨hb1, hb2⟩ := hb
      have hd : decF (f + 1) n l = [UInt8.ofNat (48 + n)] := by unfold decF; rw [if_pos ⟨hb1, hb2⟩]
      have HD := Lib.hid hd
      have kc := one_str w (48 + n) (by omega) (by omega)
      clear hd h18 hn
      go_enter Tryd.func32, Tryd.ntmps32
      go_wp2
      go_ret
      refine ⟨?_, (Below.refl _ _).alloc (Nat.le_refl _) _⟩
      rw [HD.out]
      rfl
    · have hd : decF (f + 1) n l = decF f (n / 10) (l - 1) ++ [UInt8.ofNat (48 + n % 10)] := by
        conv => lhs; unfold decF
        rw [if_neg hb]
      have hf : 1 ≤ f := by
        rcases f with _ | f
        · simp at hn; omega
        · omega
      have ih := fun w => decimal_any f (n / 10) (l - 1) w (by omega) (by rw [Nat.pow_succ] at hn; omega) (by omega) (by omega) hf
      have e10 : ((n / 10 : Nat) : Int) = (n : Int) / 10 := by omega
      rw [e10] at ih
      have hlen := decF_len f (n / 10) (l - 1)
      obtain ⟨D, hD⟩ : ∃ D : ByteArray, D = ⟨(decF f (n / 10) (l - 1)).toArray⟩ := ⟨_, rfl⟩
      have hds : D.size ≤ 17 := by rw [hD]; show (decF f (n / 10) (l - 1)).toArray.size ≤ _; rw [List.size_toArray]; omega
      rw [← hD] at ih
      have HD := Lib.hid hd
      have HDD := Lib.hid hD
      have IH := Lib.hid ih
      have kc := byte_str (48 + (n : Int) % 10) (by omega) (by omega)
      clear hd hD ih hlen h18 hn e10
      by_cases h10 : n < 10
      · have hl1 : 1 < l := by omega
        clear hb
        go_enter Tryd.func32, Tryd.ntmps32
        have e1 : IntKind.i64.wrap (l - 1) = l - 1 := IntWalk.i64_in _ (by omega)
        have e2 : (n : Int).tdiv 10 = (n : Int) / 10 := Int.tdiv_eq_ediv_of_nonneg (by omega)
        have e3 : (n : Int).tmod 10 = (n : Int) % 10 := Int.tmod_eq_emod_of_nonneg (by omega)
        have e4 : IntKind.i64.wrap ((n : Int) / 10) = (n : Int) / 10 := IntWalk.i64_in _ (by omega)
        have e5 : IntKind.i64.wrap ((n : Int) % 10) = (n : Int) % 10 := IntWalk.i64_in _ (by omega)
        have e6 : IntKind.i64.wrap (48 + (n : Int) % 10) = 48 + (n : Int) % 10 := IntWalk.i64_in _ (by omega)
        have e7 : IntKind.u8.wrap (48 + (n : Int) % 10) = 48 + (n : Int) % 10 := by unfold IntKind.wrap; simp [IntKind.bits, IntKind.signed]; omega
        go_wp2_with fail
        go_region_with (go_at_call 32; refine (IH.out _).mono ?_; rintro e w1 ⟨rfl, hb1⟩; first | (have hc1 := kc _ _ (made_cell hb1)) | (have hc1 := kc _ _ (made_cell' hb1)) | skip)
        all_goals
          go_wp2
          refine bodyPost_ret (v := .string (D ++ ⟨#[UInt8.ofNat (48 + n % 10)]⟩)) (by simp [results, Tryd.results32, go_sem]) rfl ⟨?_, ?_⟩
          · rw [HD.out, ← dec_join HDD.out]
          · first
              | exact (below_drew hb1).alloc (below_drew hb1).size _
              | exact below_made hb1
              | exact below_made' hb1
      · have hn10 : 10 ≤ n := by omega
        clear hb h10
        go_enter Tryd.func32, Tryd.ntmps32
        have e1 : IntKind.i64.wrap (l - 1) = l - 1 := IntWalk.i64_in _ (by omega)
        have e2 : (n : Int).tdiv 10 = (n : Int) / 10 := Int.tdiv_eq_ediv_of_nonneg (by omega)
        have e3 : (n : Int).tmod 10 = (n : Int) % 10 := Int.tmod_eq_emod_of_nonneg (by omega)
        have e4 : IntKind.i64.wrap ((n : Int) / 10) = (n : Int) / 10 := IntWalk.i64_in _ (by omega)
        have e5 : IntKind.i64.wrap ((n : Int) % 10) = (n : Int) % 10 := IntWalk.i64_in _ (by omega)
        have e6 : IntKind.i64.wrap (48 + (n : Int) % 10) = 48 + (n : Int) % 10 := IntWalk.i64_in _ (by omega)
        have e7 : IntKind.u8.wrap (48 + (n : Int) % 10) = 48 + (n : Int) % 10 := by unfold IntKind.wrap; simp [IntKind.bits, IntKind.signed]; omega
        go_wp2_with fail
        go_region_with (go_at_call 32; refine (IH.out _).mono ?_; rintro e w1 ⟨rfl, hb1⟩; first | (have hc1 := kc _ _ (made_cell hb1)) | (have hc1 := kc _ _ (made_cell' hb1)) | skip)
        all_goals
          go_wp2
          refine bodyPost_ret (v := .string (D ++ ⟨#[UInt8.ofNat (48 + n % 10)]⟩)) (by simp [results, Tryd.results32, go_sem]) rfl ⟨?_, ?_⟩
          · rw [HD.out, ← dec_join HDD.out]
          · first
              | exact (below_drew hb1).alloc (below_drew hb1).size _
              | exact below_made hb1
              | exact below_made' hb1

/-- The reference's numeral is the program's. -/
theorem decF_one {v : Int} (h0 : 0 ≤ v) (h1 : v ≤ 99999999) : (⟨(decF 8 v.toNat 1).toArray⟩ : ByteArray) = num v := by
  unfold num
  rw [decF_eq 8 v.toNat 1 (by omega) (by omega) (by omega), show (1 : Int).toNat - Lib.nDigits v.toNat = 0 by have := Lib.nDigits_pos v.toNat; omega]
  obtain ⟨u, rfl⟩ : ∃ u : Nat, v = u := ⟨v.toNat, by omega⟩
  rw [Lib.itoa_nonneg]
  simp
theorem decF_eight {v : Int} (h0 : 0 ≤ v) (h1 : v ≤ 99999999) : (⟨(decF 8 v.toNat 8).toArray⟩ : ByteArray) = (⟨#[48, 48, 48, 48, 48, 48, 48, 48]⟩ : ByteArray).extract (num v).size 8 ++ num v := by
  obtain ⟨u, rfl⟩ : ∃ u : Nat, v = u := ⟨v.toNat, by omega⟩
  have hs := num_size (n := (u : Int)) (k := 8) (by omega) (by omega) (by omega)
  have e : (num (u : Int)).size = Lib.nDigits u := by
    show (Lib.itoa u).toArray.size = _
    rw [Lib.itoa_nonneg, List.size_toArray, Lib.decDigits_length]
  apply Go.WideShapes.bytes_inj
  rw [decF_eq 8 _ 8 (by omega) (by omega) (by omega), ByteArray.data_append, Array.toList_append, ByteArray.data_extract, e]
  rw [e] at hs
  have hn : (num (u : Int)).data.toList = Lib.decDigits u := by unfold num; rw [Lib.itoa_nonneg]
  rw [hn]
  show List.replicate (8 - Lib.nDigits u) 48 ++ Lib.decDigits u = _
  congr 1
  rcases (by omega : Lib.nDigits u = 1 ∨ Lib.nDigits u = 2 ∨ Lib.nDigits u = 3 ∨ Lib.nDigits u = 4 ∨ Lib.nDigits u = 5 ∨ Lib.nDigits u = 6 ∨ Lib.nDigits u = 7 ∨ Lib.nDigits u = 8) with h | h | h | h | h | h | h | h <;> rw [h] <;> rfl
end Go.Proofs.YtopeblaiifkmoaaDoor
