/-
  The reference's step and sum of bech32. Conditions: the numbers are below 2^30.
-/
import Derived.Test.YtpaafkhlelljcaaDoorBcStr
import Derived.Test.YtpaafkhlelljcaaDoorBcSum
namespace Go.Proofs.YtpaafkhlelljcaaDoor
open Go.RowKit

theorem mixB_next (up c m : Nat) : (if up / 2 ^ m % 2 = 1 then mixB up c m ^^^ gB m else mixB up c m) = mixB up c (m + 1) := rfl

set_option maxRecDepth 100000 in
set_option maxHeartbeats 1600000 in
theorem rstep_any (c v : Nat) (w : World) (hc : c < 1073741824) (hv : v < 256) :
    Calls Tryd.prog 57 #[.int .u64 c, .int .u8 v] w fun e w' => e = .returned (.int .u64 ((turnB c v : Nat) : Int)) ∧ Below w.heap.size w w' := by
  have hx : bits .xor .u64 ((c : Int) % 33554432 * 32) (v : Int) = ((c % 33554432 * 32 ^^^ v : Nat) : Int) := by
    have h2 : ((c : Int) % 33554432 * 32) = ((c % 33554432 * 32 : Nat) : Int) := by omega
    rw [h2, bits_xor_u64_nat _ _ (by omega) (by omega)]
  have hwv : IntKind.u64.wrap (v : Int) = v := by rw [IntKind.wrap_u64]; omega
  have hu : ((c : Int) / 33554432) = ((c / 33554432 : Nat) : Int) := by omega
  obtain ⟨up, hup⟩ : ∃ up, up = c / 33554432 := ⟨_, rfl⟩
  obtain ⟨z, hz⟩ : ∃ z, z = c % 33554432 * 32 ^^^ v := ⟨_, rfl⟩
  have ht : turnB c v = mixB up z 5 := by rw [hup, hz]; rfl
  have hz2 : z < 1073741824 := by rw [hz]; exact Nat.xor_lt_two_pow (n := 30) (by omega) (by omega)
  have hu2 : up < 1073741824 := by omega
  rw [← hup] at hu
  rw [← hz] at hx
  rw [ht]
  have HT := Lib.hid ht
  clear ht hup hz
  go_enter Tryd.func57, Tryd.ntmps57
  go_wp2_with fail
  clear hx hwv hu
  go_loopw [7, 6, 0] (fun j b cc wr => ∃ m : Nat, m ≤ 5 ∧ j = .int .i64 m ∧ b = .int .u64 ((up / 2 ^ m : Nat) : Int) ∧ cc = .int .u64 ((mixB up z m : Nat) : Int) ∧ wr = w.alloc (.cells #[.int .u64 996825010, .int .u64 642813549, .int .u64 513874426, .int .u64 1027748829, .int .u64 705979059] 75)) (fun j _ _ _ => 5 - (intOf j).toNat)
  case atStart => exact ⟨0, by omega, rfl, by simp, rfl, rfl⟩
  case round =>
    obtain ⟨m, hm, rfl, rfl, rfl, rfl⟩ := hrel
    by_cases h5 : m < 5
    · obtain ⟨b, hb⟩ : ∃ b, b = up / 2 ^ m := ⟨_, rfl⟩
      obtain ⟨y, hy⟩ : ∃ y, y = mixB up z m := ⟨_, rfl⟩
      have hnext := mixB_next up z m
      rw [← hb, ← hy] at hnext
      have hb2 : up / 2 ^ (m + 1) = b / 2 := by rw [hb, Nat.pow_succ, Nat.div_div_eq_div_mul]
      have hbb : b < 1073741824 := by rw [hb]; exact Nat.lt_of_le_of_lt (Nat.div_le_self _ _) hu2
      have hyb : y < 1073741824 := by rw [hy]; exact mixB_lt up z hz2 m
      have hgb := gB_lt m
      have hxor := bits_xor_u64_nat y (gB m) (by omega) (by omega)
      have hwb : IntKind.u64.wrap ((b : Int) / 2) = (b : Int) / 2 := by rw [IntKind.wrap_u64]; omega
      rw [← hb, ← hy]
      have HB := Lib.hid hb2
      clear hb hy hb2
      by_cases hodd : b % 2 = 1
      · rw [if_pos hodd] at hnext
        have HN := Lib.hid hnext
        have hd : ((b : Int) % 2 == 1) = true := by simp; omega
        clear hnext
        obtain rfl | rfl | rfl | rfl | rfl : m = 0 ∨ m = 1 ∨ m = 2 ∨ m = 3 ∨ m = 4 := by omega
        · simp only [gB] at hxor
          go_wp2
          exact ⟨⟨1, by omega, rfl, congrArg (Value.int .u64) (by rw [HB.out]; omega), congrArg (Value.int .u64) (by rw [← HN.out]; first | rfl | exact hxor), trivial⟩, by simp [intOf]⟩
        · simp only [gB] at hxor
          go_wp2
          exact ⟨⟨2, by omega, rfl, congrArg (Value.int .u64) (by rw [HB.out]; omega), congrArg (Value.int .u64) (by rw [← HN.out]; first | rfl | exact hxor), trivial⟩, by simp [intOf]⟩
        · simp only [gB] at hxor
          go_wp2
          exact ⟨⟨3, by omega, rfl, congrArg (Value.int .u64) (by rw [HB.out]; omega), congrArg (Value.int .u64) (by rw [← HN.out]; first | rfl | exact hxor), trivial⟩, by simp [intOf]⟩
        · simp only [gB] at hxor
          go_wp2
          exact ⟨⟨4, by omega, rfl, congrArg (Value.int .u64) (by rw [HB.out]; omega), congrArg (Value.int .u64) (by rw [← HN.out]; first | rfl | exact hxor), trivial⟩, by simp [intOf]⟩
        · simp only [gB] at hxor
          go_wp2
          exact ⟨⟨5, by omega, rfl, congrArg (Value.int .u64) (by rw [HB.out]; omega), congrArg (Value.int .u64) (by rw [← HN.out]; first | rfl | exact hxor), trivial⟩, by simp [intOf]⟩
      · rw [if_neg hodd] at hnext
        have HN := Lib.hid hnext
        have hd : ((b : Int) % 2 == 1) = false := by simp; omega
        clear hnext
        go_wp2
        exact ⟨⟨m + 1, by omega, by go_num, congrArg (Value.int .u64) (by rw [HB.out]; omega), congrArg (Value.int .u64) (by rw [← HN.out]), trivial⟩, by simp [intOf]; omega⟩
    · have hm5 : m = 5 := by omega
      subst hm5
      go_wp2
      go_ret
      exact ⟨rfl, (Below.refl _ _).alloc (Nat.le_refl _) _⟩


theorem rest_take {d : List UInt8} {i : Nat} {q : UInt8} (hq : d[i]? = some q) (c : Nat) : turnsB c (d.take (i + 1)) = turnB (turnsB c (d.take i)) q.toNat := by
  rw [List.take_add_one, hq, turnsB_append]
  rfl

set_option maxRecDepth 100000 in
set_option maxHeartbeats 3200000 in
theorem rsum_any (B : Nat) (s : ByteArray) (x : Value) (d : List UInt8) (w : World) (hx : Byt w B x d) (hB : B ≤ w.heap.size) (hs : s.size ≤ 60000) (hl : d.length ≤ 60000) :
    Calls Tryd.prog 36 #[.string s, x] w fun e w' => e = .returned (.int .u64 ((sumB s.data.toList d : Nat) : Int)) ∧ Below w.heap.size w w' := by
  obtain ⟨A, cx, hxf⟩ := hx.form
  subst hxf
  have HX := Lib.hid hx
  obtain ⟨h, hh⟩ : ∃ h, h = s.data.toList := ⟨_, rfl⟩
  have hhs : h.length = s.size := by rw [hh]; rfl
  rw [← hh]
  have HH := Lib.hid hh
  have HHS := Lib.hid hhs
  obtain ⟨r, hr⟩ : ∃ r, r = sumB h d := ⟨_, rfl⟩
  rw [← hr]
  have HR := Lib.hid hr
  have ST := Lib.hid (fun (c v : Nat) (W : World) (hc : c < 1073741824) (hv : v < 256) => rstep_any c v W hc hv)
  clear hx hh hhs hr
  go_enter Tryd.func36, Tryd.ntmps36
  go_wp2_with fail
  go_loopw [6, 5] (fun j cc wr => ∃ i : Nat, i ≤ s.size ∧ j = .int .i64 i ∧ cc = .int .u64 ((turnsB 1 (hiS (h.take i)) : Nat) : Int) ∧ Below w.heap.size w wr) (fun j _ _ => s.size - (intOf j).toNat)
  case atStart => exact ⟨0, Nat.zero_le _, rfl, rfl, Below.refl _ _⟩
  case round =>
    obtain ⟨i, hi, rfl, rfl, hbel⟩ := hrel
    by_cases hlt : i < s.size
    · obtain ⟨q, hq⟩ : ∃ q, q = s[i]'hlt := ⟨_, rfl⟩
      have hqi : h[i]? = some q := by rw [HH.out, hq]; exact Lib.data_getElem? s i hlt
      have hq256 := q.toNat_lt
      have hnext := hi_take hqi 1
      obtain ⟨c, hcc⟩ : ∃ c, c = turnsB 1 (hiS (h.take i)) := ⟨_, rfl⟩
      have hc30 : c < 1073741824 := by rw [hcc]; exact turnsB_lt _ _ (by omega)
      rw [← hcc] at hnext
      rw [← hcc]
      have HN := Lib.hid hnext
      have HB := Lib.hid hbel
      have C1 := fun W => ST.out c (q.toNat / 32) W hc30 (by omega)
      simp only [show ((q.toNat / 32 : Nat) : Int) = (q.toNat : Int) / 32 by omega] at C1
      have C1 := Lib.hid C1
      have hw1 : IntKind.u8.wrap ((q.toNat : Int) / 32) = (q.toNat : Int) / 32 := by rw [IntKind.wrap_u8]; omega
      have hqs : (s[i]'hlt) = q := hq.symm
      clear hbel hnext hqi hcc hq
      go_wp2_with fail
      refine (C1.out _).mono ?_
      rintro e w2 ⟨rfl, hb2⟩
      go_wp2_with fail
      refine ⟨⟨i + 1, by omega, by go_num, ?_, HB.out.trans (hb2.mono HB.out.size)⟩, by simp [intOf]; omega⟩
      rw [HN.out]
    · have hie : h.take i = h := List.take_of_length_le (by have := HHS.out; omega)
      rw [hie]
      obtain ⟨c, hcc⟩ : ∃ c, c = turnsB 1 (hiS h) := ⟨_, rfl⟩
      have hc30 : c < 1073741824 := by rw [hcc]; exact turnsB_lt _ _ (by omega)
      rw [← hcc]
      have HCC := Lib.hid hcc
      have HB := Lib.hid hbel
      have C0 := Lib.hid (fun W => ST.out c 0 W hc30 (by omega))
      clear hie hcc hbel
      go_wp2_with fail
      refine (C0.out _).mono ?_
      rintro e w1 ⟨rfl, hb1⟩
      obtain ⟨c1, hc1⟩ : ∃ c1, c1 = turnB c 0 := ⟨_, rfl⟩
      have hc1l : c1 < 1073741824 := by rw [hc1]; exact turnB_lt _ _ (by decide)
      rw [← hc1]
      have HC1 := Lib.hid hc1
      have HB1 := Lib.hid (HB.out.trans (hb1.mono HB.out.size))
      clear hc1 hb1 HB C0
      go_wp2_with fail
      go_loopw [7, 5] (fun j cc wr => ∃ i : Nat, i ≤ s.size ∧ j = .int .i64 i ∧ cc = .int .u64 ((turnsB c1 (loS (h.take i)) : Nat) : Int) ∧ Below w.heap.size w wr) (fun j _ _ => s.size - (intOf j).toNat)
      case atStart => exact ⟨0, Nat.zero_le _, rfl, rfl, HB1.out⟩
      case round =>
        obtain ⟨i, hi, rfl, rfl, hbel⟩ := hrel
        by_cases hlt : i < s.size
        · obtain ⟨q, hq⟩ : ∃ q, q = s[i]'hlt := ⟨_, rfl⟩
          have hqi : h[i]? = some q := by rw [HH.out, hq]; exact Lib.data_getElem? s i hlt
          have hq256 := q.toNat_lt
          have hnext := lo_take hqi c1
          obtain ⟨c, hcc⟩ : ∃ c, c = turnsB c1 (loS (h.take i)) := ⟨_, rfl⟩
          have hc30 : c < 1073741824 := by rw [hcc]; exact turnsB_lt _ _ hc1l
          rw [← hcc] at hnext
          rw [← hcc]
          have HN := Lib.hid hnext
          have HB := Lib.hid hbel
          have C1 := fun W => ST.out c (q.toNat % 32) W hc30 (by omega)
          simp only [show ((q.toNat % 32 : Nat) : Int) = (q.toNat : Int) % 32 by omega] at C1
          have C1 := Lib.hid C1
          have hqs : (s[i]'hlt) = q := hq.symm
          clear hbel hnext hqi hcc hq
          go_wp2_with fail
          refine (C1.out _).mono ?_
          rintro e w2 ⟨rfl, hb2⟩
          go_wp2_with fail
          refine ⟨⟨i + 1, by omega, by go_num, ?_, HB.out.trans (hb2.mono HB.out.size)⟩, by simp [intOf]; omega⟩
          rw [HN.out]
        · have hie : h.take i = h := List.take_of_length_le (by have := HHS.out; omega)
          rw [hie]
          obtain ⟨c2, hc2⟩ : ∃ c2, c2 = turnsB c1 (loS h) := ⟨_, rfl⟩
          have hc2l : c2 < 1073741824 := by rw [hc2]; exact turnsB_lt _ _ hc1l
          rw [← hc2]
          have HC2 := Lib.hid hc2
          have HB := Lib.hid hbel
          clear hie hc2 hbel
          go_wp2_with fail
          go_loopw [8, 5] (fun j cc wr => ∃ i : Nat, i ≤ d.length ∧ j = .int .i64 i ∧ cc = .int .u64 ((turnsB c2 (d.take i) : Nat) : Int) ∧ Below w.heap.size w wr) (fun j _ _ => d.length - (intOf j).toNat)
          case atStart => exact ⟨0, Nat.zero_le _, rfl, rfl, HB.out⟩
          case round =>
            obtain ⟨i, hi, rfl, rfl, hbel⟩ := hrel
            by_cases hlt : i < d.length
            · obtain ⟨A', c', e0, _, _, _, h4⟩ := HX.out
              obtain ⟨e1, e2, e3⟩ := Value.slice.inj e0
              subst e1 e3
              clear e2 e0
              obtain ⟨b, o, rfl, hb, hbc⟩ := h4 (by rintro rfl; simp at hlt)
              obtain ⟨q, hq⟩ : ∃ q, q = d[i] := ⟨_, rfl⟩
              have hci := hbc i _ (List.getElem?_eq_getElem hlt)
              rw [← hq] at hci
              have hbi : ∀ W, Below w.heap.size w W → W.cell? ⟨b, o + i, none⟩ = some (.int .u8 (q.toNat : Int)) := fun W hW => (hW.cell (p := ⟨b, _, none⟩) (by show b < _; omega)).trans hci
              have hqi : d[i]? = some q := by rw [hq]; exact List.getElem?_eq_getElem hlt
              have hq256 := q.toNat_lt
              have hnext := rest_take hqi c2
              obtain ⟨c, hcc⟩ : ∃ c, c = turnsB c2 (d.take i) := ⟨_, rfl⟩
              have hc30 : c < 1073741824 := by rw [hcc]; exact turnsB_lt _ _ hc2l
              rw [← hcc] at hnext
              rw [← hcc]
              have hbw := hbi _ hbel
              have HN := Lib.hid hnext
              have HB := Lib.hid hbel
              have C1 := Lib.hid (fun W => ST.out c q.toNat W hc30 hq256)
              clear hbel hnext hqi hcc hq hci hbc h4 hbi
              go_wp2_with fail
              refine (C1.out _).mono ?_
              rintro e w2 ⟨rfl, hb2⟩
              go_wp2_with fail
              refine ⟨⟨i + 1, by omega, by go_num, ?_, HB.out.trans (hb2.mono HB.out.size)⟩, by simp [intOf]; omega⟩
              rw [HN.out]
            · have hie : d.take i = d := List.take_of_length_le (by omega)
              rw [hie]
              have hrr : turnsB c2 d = r := by rw [HR.out, HC2.out, HC1.out, HCC.out, sum_parts]
              rw [hrr]
              clear hie hrr
              go_wp2_with fail
              go_ret
              exact ⟨rfl, hbel⟩
end Go.Proofs.YtpaafkhlelljcaaDoor
