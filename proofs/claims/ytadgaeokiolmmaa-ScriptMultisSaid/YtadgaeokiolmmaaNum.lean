/-
  What the reader's inner functions that read numbers, sizes and lists do. Conditions: sizes within the reach.
-/
import Derived.Test.YtadgaeokiolmmaaRead
namespace Go.Proofs.Ytadgaeokiolmmaa
open Go.RowKit Go.Maps

theorem take_nat (r B : Nat) (v : Value) (k : Int) (n : Nat) (xs : List UInt8) (w : World) (h1 : n ≤ xs.length) (hc : Cu w r B v k xs) :
    Calls Try.prog 79 #[.pointer (some ⟨r, 0, none⟩), .int .i64 (n : Int)] w fun e w' => ∃ A c, Goes w r B k (.slice A n c) (xs.drop n) e w' ∧ Byt w' B (.slice A n c) (xs.take n) :=
  (take_ok r B v k n xs w (by omega) (by omega) hc).mono fun e w' h => by simpa using h

theorem val_take_snoc {ts : List UInt8} {j : Nat} (h : j < ts.length) : val (ts.take (j + 1)) = val (ts.take j) + 256 ^ j * (ts[j]).toNat := by
  rw [List.take_succ_eq_append_getElem h, val_snoc, List.length_take, Nat.min_eq_left (Nat.le_of_lt h)]

set_option maxHeartbeats 800000 in
theorem number_ok (r B : Nat) (v : Value) (k : Int) (n : Nat) (xs : List UInt8) (w : World) (hn0 : 0 < n) (hn8 : n ≤ 8) (h1 : n ≤ xs.length) (hc : Cu w r B v k xs) :
    Calls Try.prog 91 #[.pointer (some ⟨r, 0, none⟩), .int .i64 (n : Int)] w (Goes w r B k (.int .u64 (val (xs.take n))) (xs.drop n)) := by
  go_enter Try.func91, Try.ntmps91
  go_wp2_with fail
  refine (take_nat r B v k n xs w h1 hc).mono ?_
  rintro e w1 ⟨A, c, ⟨rfl, hgo⟩, hby⟩
  obtain ⟨ts, hts⟩ : ∃ ts, ts = xs.take n := ⟨_, rfl⟩
  have hlen : ts.length = n := by rw [hts, List.length_take]; omega
  rw [← hts] at hby
  obtain ⟨A', c', e0, _, _, _, h4⟩ := hby
  injection e0 with e1 e2 e3
  obtain ⟨b, o, rfl, _, hcell⟩ := h4 (by rintro rfl; simp at hlen; omega)
  subst e1
  have HL := Lib.hid hlen
  have HC := Lib.hid hcell
  have HT := Lib.hid hts
  have HG := Lib.hid hgo
  clear hlen hcell hts hgo e2 e3 h4
  go_wp2_with fail
  go_loop [5, 12] (fun x i => ∃ j : Nat, j ≤ n ∧ i = .int .i64 (j : Int) ∧ x = .int .u64 (val (ts.take j))) (fun _ i => n - (intOf i).toNat)
  case atStart => exact ⟨0, Nat.zero_le _, rfl, rfl⟩
  case round =>
    obtain ⟨j, hj, rfl, rfl⟩ := hrel
    have hbd := val_bd (ts.take j)
    have hjl : (ts.take j).length = j := by rw [List.length_take, HL.out]; omega
    rw [hjl] at hbd
    have hb1 := hbd.1
    have hb2 := val_le8 (xs := ts.take j) (by omega)
    have HB := Lib.hid hbd
    clear hbd hjl
    by_cases hlt : j < n
    · have hcj : w1.cell? ⟨b, o + j, none⟩ = some (.int .u8 ((ts[j]'(by have := HL.out; omega)).toNat : Int)) := HC.out j _ (List.getElem?_eq_getElem (by have := HL.out; omega))
      have hb := (ts[j]'(by have := HL.out; omega)).toNat_lt
      go_wp2
      have hv := or_step (b := ts[j]'(by have := HL.out; omega)) HB.out.1 HB.out.2 (by omega : j < 8)
      rw [← val_take_snoc] at hv
      refine ⟨⟨j + 1, by omega, by go_num, by rw [hv]⟩, by simp [intOf]; omega⟩
    · go_wp2
      go_ret
      have hjn : j = n := by omega
      have : val (ts.take j) = val (xs.take n) := by rw [HT.out, hjn, List.take_take, Nat.min_self]
      exact ⟨congrArg (fun q => Ending.returned (.int .u64 q)) this, HG.out⟩

set_option maxHeartbeats 400000 in
theorem number_end (r B : Nat) (v : Value) (k : Int) (n : Int) (xs : List UInt8) (w : World) (h1 : xs.length < n) (hc : Cu w r B v k xs) :
    Calls Try.prog 91 #[.pointer (some ⟨r, 0, none⟩), .int .i64 n] w (Stops w r B k 4) := by
  go_enter Try.func91, Try.ntmps91
  go_wp2_with fail
  refine (take_end r B v k n xs w h1 hc).mono ?_
  rintro e w1 ⟨rfl, hst⟩
  go_wp2
  exact ⟨rfl, rfl, hst⟩

theorem number_num (r B : Nat) (v : Value) (k : Int) (q : Int) (n : Nat) (hq : q = n) (xs : List UInt8) (w : World) (hn0 : 0 < n) (hn8 : n ≤ 8) (h1 : n ≤ xs.length) (hc : Cu w r B v k xs) :
    Calls Try.prog 91 #[.pointer (some ⟨r, 0, none⟩), .int .i64 q] w (Goes w r B k (.int .u64 (val (xs.take n))) (xs.drop n)) := by
  subst hq
  exact number_ok r B v k n xs w hn0 hn8 h1 hc

end Go.Proofs.Ytadgaeokiolmmaa
