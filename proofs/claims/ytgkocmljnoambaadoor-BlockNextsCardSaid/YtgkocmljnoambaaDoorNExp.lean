/-
  block.expand: what bits stand for. Conditions: none.
-/
import Derived.Test.YtgkocmljnoambaaDoorNCmp
import Derived.Test.YtgkocmljnoambaaDoorTgtP
namespace Go.Proofs.YtgkocmljnoambaaDoor
open Go.RowKit

set_option maxRecDepth 100000 in
set_option maxHeartbeats 3200000 in
theorem expand_any (bits : Nat) (w : World) (hb : bits < 4294967296) :
    Calls Tryd.prog 22 #[.int .u32 (bits : Int)] w fun e w' => e = .returned (numV (expN bits)) ∧ Below w.heap.size w w' := by
  obtain ⟨n, hn⟩ : ∃ n, n = expN bits := ⟨_, rfl⟩
  rw [← hn]
  obtain ⟨m, hm⟩ : ∃ m, m = bitsM bits := ⟨_, rfl⟩
  obtain ⟨e, he⟩ : ∃ e, e = bitsE bits := ⟨_, rfl⟩
  have hmb : m < 16777216 := by rw [hm]; unfold bitsM; omega
  have heb : e < 256 := by rw [he]; unfold bitsE; omega
  have hei : (bits : Int) / 16777216 = (e : Int) := by rw [he]; unfold bitsE; omega
  have hdig : ∀ i, i < 3 → bits / 2 ^ (16 - 8 * i) % 256 = m / 256 ^ (2 - i) % 256 := fun i hi => by rw [hm]; exact bits_digit bits i hi
  have hv : bitsV bits = part m e 3 := by rw [hm, he]; exact bitsV_part bits
  have hr := zero_row w 24
  obtain ⟨W, hW⟩ : ∃ W, w.alloc (.cells zeroA 24) = W := ⟨_, rfl⟩
  have hB : Below w.heap.size w W := by rw [← hW]; exact (Below.refl _ w).alloc (Nat.le_refl _) _
  rw [hW] at hr
  have HN := Lib.hid hn
  have HDG := Lib.hid hdig
  have HV := Lib.hid hv
  have HW := Lib.hid hW
  have HR := Lib.hid hr
  have HB := Lib.hid hB
  clear hn hm he hdig hv hW hr hB
  unfold numV
  go_enter Tryd.func22, Tryd.ntmps22
  go_wp2_with fail
  change Code.wp _ _ _ _ (w.alloc (.cells zeroA 24))
  rw [HW.out]
  obtain ⟨st, hst⟩ : ∃ st : Int, st = 32 - (e : Int) := ⟨_, rfl⟩
  rw [← hst]
  have HST := Lib.hid hst
  have hs0 : -300 ≤ st := by omega
  have hs1 : st ≤ 32 := by omega
  clear hst hei
  go_loopw [11] (fun iv wr => ∃ i : Nat, i ≤ 3 ∧ iv = .int .i64 i ∧ Hid (part m e i < top) ∧ IRow wr w.heap.size 24 .u8 (num (part m e i)) ∧ Below w.heap.size w wr) (fun iv _ => 3 - (intOf iv).toNat)
  case atStart => exact ⟨0, by omega, rfl, Lib.hid (by rw [part_zero hmb]; exact top_pos), by rw [part_zero hmb]; exact HR.out, HB.out⟩
  case round =>
    obtain ⟨i, hi, rfl, hlt, hrow, hbel⟩ := hrel
    by_cases h3 : i < 3
    · obtain ⟨D, hD⟩ : ∃ D, D = m / 256 ^ (2 - i) % 256 := ⟨_, rfl⟩
      have hD256 : D < 256 := by rw [hD]; exact Nat.mod_lt _ (by omega)
      have hdig := HDG.out i h3
      rw [← hD] at hdig
      have HD := Lib.hid hD
      have HROW := Lib.hid hrow
      have HBEL := Lib.hid hbel
      clear hrow hbel hD
      by_cases hA : e ≤ i
      · have hpn := part_same (m := m) hA
        have HPN := Lib.hid hpn
        clear hpn
        obtain rfl | rfl | rfl : i = 0 ∨ i = 1 ∨ i = 2 := by omega
        · have hd : (bits : Int) / 65536 % 256 = D := by omega
          have b0 : 32 ≤ st := by have := HST.out; omega
          clear hdig
          go_wp2_with fail
          exact ⟨⟨1, by omega, rfl, Lib.hid (by rw [HPN.out]; exact hlt.out), by rw [HPN.out]; exact HROW.out, HBEL.out⟩, by simp [intOf]⟩
        · have hd : (bits : Int) / 256 % 256 = D := by omega
          have b0 : 32 ≤ st + 1 := by have := HST.out; omega
          clear hdig
          go_wp2_with fail
          exact ⟨⟨2, by omega, rfl, Lib.hid (by rw [HPN.out]; exact hlt.out), by rw [HPN.out]; exact HROW.out, HBEL.out⟩, by simp [intOf]⟩
        · have hd : (bits : Int) % 256 = D := by omega
          have b0 : 32 ≤ st + 2 := by have := HST.out; omega
          clear hdig
          go_wp2_with fail
          exact ⟨⟨3, by omega, rfl, Lib.hid (by rw [HPN.out]; exact hlt.out), by rw [HPN.out]; exact HROW.out, HBEL.out⟩, by simp [intOf]⟩
      · by_cases hB : e - i ≤ 32
        · obtain ⟨q, hq0⟩ : ∃ q : Nat, q + (e - i - 1) = 31 := ⟨31 - (e - i - 1), by omega⟩
          have hnx := num_set (c := part m e i) (k := e - i - 1) (d := D) (by omega) (part_digit (by omega)) hD256
          rw [show 31 - (e - i - 1) = q by omega, HD.out, ← part_next h3 (by omega), ← HD.out] at hnx
          have HNX := Lib.hid hnx.symm
          have HLT := Lib.hid (part_lt h3 (by omega) hB hlt.out)
          have hce : wr.cell? ⟨w.heap.size, q, none⟩ = some (.int .u8 ((dg (part m e i) q : Nat) : Int)) := HROW.out.cell (num_at _ (by omega))
          have hfr : wr.frozen? ⟨w.heap.size, q, none⟩ = false := HROW.out.free q
          clear hnx
          obtain rfl | rfl | rfl : i = 0 ∨ i = 1 ∨ i = 2 := by omega
          · have hd : (bits : Int) / 65536 % 256 = D := by omega
            have hq : st = (q : Int) := by have := HST.out; omega
            have b1 : (q : Int) < 32 := by omega
            clear hdig
            subst hq
            go_wp2_with fail
            exact ⟨⟨1, by omega, rfl, Lib.hid HLT.out, by rw [HNX.out]; exact (HROW.out.set q D), HBEL.out.setCell (p := ⟨w.heap.size, q, none⟩) (Nat.le_refl _) _⟩, by simp [intOf]⟩
          · have hd : (bits : Int) / 256 % 256 = D := by omega
            have hq : st + 1 = (q : Int) := by have := HST.out; omega
            have b0 : (0 : Int) ≤ st + 1 := by omega
            have b1 : st + 1 < 32 := by omega
            clear hdig
            go_wp2_with fail
            exact ⟨⟨2, by omega, rfl, Lib.hid HLT.out, by rw [HNX.out]; exact (HROW.out.set q D), HBEL.out.setCell (p := ⟨w.heap.size, q, none⟩) (Nat.le_refl _) _⟩, by simp [intOf]⟩
          · have hd : (bits : Int) % 256 = D := by omega
            have hq : st + 2 = (q : Int) := by have := HST.out; omega
            have b0 : (0 : Int) ≤ st + 2 := by omega
            have b1 : st + 2 < 32 := by omega
            clear hdig
            go_wp2_with fail
            exact ⟨⟨3, by omega, rfl, Lib.hid HLT.out, by rw [HNX.out]; exact (HROW.out.set q D), HBEL.out.setCell (p := ⟨w.heap.size, q, none⟩) (Nat.le_refl _) _⟩, by simp [intOf]⟩
        · by_cases hD0 : D = 0
          · subst hD0
            have hpn : part m e (i + 1) = part m e i := by rw [part_next h3 (by omega), ← HD.out, Nat.zero_mul, Nat.add_zero]
            have HPN := Lib.hid hpn
            clear hpn
            obtain rfl | rfl | rfl : i = 0 ∨ i = 1 ∨ i = 2 := by omega
            · have hd : (bits : Int) / 65536 % 256 = ((0 : Nat) : Int) := by omega
              have b0 : st < 0 := by have := HST.out; omega
              clear hdig
              go_wp2_with fail
              exact ⟨⟨1, by omega, rfl, Lib.hid (by rw [HPN.out]; exact hlt.out), by rw [HPN.out]; exact HROW.out, HBEL.out⟩, by simp [intOf]⟩
            · have hd : (bits : Int) / 256 % 256 = ((0 : Nat) : Int) := by omega
              have b0 : st + 1 < 0 := by have := HST.out; omega
              clear hdig
              go_wp2_with fail
              exact ⟨⟨2, by omega, rfl, Lib.hid (by rw [HPN.out]; exact hlt.out), by rw [HPN.out]; exact HROW.out, HBEL.out⟩, by simp [intOf]⟩
            · have hd : (bits : Int) % 256 = ((0 : Nat) : Int) := by omega
              have b0 : st + 2 < 0 := by have := HST.out; omega
              clear hdig
              go_wp2_with fail
              exact ⟨⟨3, by omega, rfl, Lib.hid (by rw [HPN.out]; exact hlt.out), by rw [HPN.out]; exact HROW.out, HBEL.out⟩, by simp [intOf]⟩
          · have hz : n = 0 := by
              rw [HN.out]
              unfold expN
              rw [if_neg]
              rw [HV.out]
              exact part_great h3 (by omega) (by rw [← HD.out]; exact hD0)
            have QF := Lib.hid (show IRow (wr.setRow w.heap.size zeroA) w.heap.size 24 .u8 (num n) by rw [hz, num_zero]; exact setRow_irow HROW.out)
            have HBF := Lib.hid (below_setRow HBEL.out (Nat.le_refl _) zeroA)
            clear hz
            obtain rfl | rfl | rfl : i = 0 ∨ i = 1 ∨ i = 2 := by omega
            · have hd : (bits : Int) / 65536 % 256 = D := by omega
              have b0 : st < 0 := by have := HST.out; omega
              have bD : (0 : Int) < D := by omega
              clear hdig
              go_wp2_with (refine wpList_store_irow rfl 24 (.tmp 2) (.tmp 30) rfl (g := w.heap.size) (t := 24) (k := .u8) (xs := num (part m e 0)) (ys := List.replicate 32 0) rfl rfl HROW.out info_num (by rw [num_length]; rfl) ?_)
              refine bodyPost_ret (v := numV n) ?_ rfl ⟨rfl, HBF.out⟩
              exact results_cell_row Tryd.results22 _ _ w.heap.size 24 (numA n) (0, 0) _ rfl QF.out Tryd.underlying24 rfl (size_numNA n)
            · have hd : (bits : Int) / 256 % 256 = D := by omega
              have b0 : st + 1 < 0 := by have := HST.out; omega
              have bD : (0 : Int) < D := by omega
              clear hdig
              go_wp2_with (refine wpList_store_irow rfl 24 (.tmp 2) (.tmp 30) rfl (g := w.heap.size) (t := 24) (k := .u8) (xs := num (part m e 1)) (ys := List.replicate 32 0) rfl rfl HROW.out info_num (by rw [num_length]; rfl) ?_)
              refine bodyPost_ret (v := numV n) ?_ rfl ⟨rfl, HBF.out⟩
              exact results_cell_row Tryd.results22 _ _ w.heap.size 24 (numA n) (0, 0) _ rfl QF.out Tryd.underlying24 rfl (size_numNA n)
            · have hd : (bits : Int) % 256 = D := by omega
              have b0 : st + 2 < 0 := by have := HST.out; omega
              have bD : (0 : Int) < D := by omega
              clear hdig
              go_wp2_with (refine wpList_store_irow rfl 24 (.tmp 2) (.tmp 30) rfl (g := w.heap.size) (t := 24) (k := .u8) (xs := num (part m e 2)) (ys := List.replicate 32 0) rfl rfl HROW.out info_num (by rw [num_length]; rfl) ?_)
              refine bodyPost_ret (v := numV n) ?_ rfl ⟨rfl, HBF.out⟩
              exact results_cell_row Tryd.results22 _ _ w.heap.size 24 (numA n) (0, 0) _ rfl QF.out Tryd.underlying24 rfl (size_numNA n)
    · obtain rfl : i = 3 := by omega
      have hz : n = part m e 3 := by
        rw [HN.out]
        unfold expN
        rw [HV.out, if_pos hlt.out]
      rw [← hz] at hrow
      have Q := Lib.hid hrow
      have QF := Lib.hid (setRow_irow (ys := num n) hrow)
      have HBF := Lib.hid (below_setRow hbel (Nat.le_refl _) (numA n))
      clear hrow hbel hz
      go_wp2_with (first
        | (refine wpList_load_irow rfl 24 (.tmp 2) rfl (g := w.heap.size) (t := 24) (k := .u8) (xs := num n) rfl Q.out Tryd.underlying24 (size_numN n) ?_)
        | (refine wpList_store_irow rfl 24 (.tmp 2) (.tmp 42) rfl (g := w.heap.size) (t := 24) (k := .u8) (xs := num n) (ys := num n) rfl rfl Q.out (size_numN n) rfl ?_))
      refine bodyPost_ret (v := numV n) ?_ rfl ⟨rfl, HBF.out⟩
      exact results_cell_row Tryd.results22 _ _ w.heap.size 24 (numA n) (0, 0) _ rfl QF.out Tryd.underlying24 rfl (size_numNA n)
end Go.Proofs.YtgkocmljnoambaaDoor
