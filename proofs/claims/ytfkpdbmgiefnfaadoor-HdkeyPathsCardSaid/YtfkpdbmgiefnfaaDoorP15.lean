/-
  Texts joined: Sum2, Double, HbMac. Conditions: those of each.
-/
import Derived.Test.YtfkpdbmgiefnfaaDoorP7
import Derived.Test.YtfkpdbmgiefnfaaDoorP14
import Derived.Test.YtfkpdbmgiefnfaaDoorP5
import Derived.Deep.CutBlock
import Derived.StillTailTactics
/-
  hash.Sum256, Double and Sum.Twice. Conditions: the size stays below 2^59; the roots are laid.
-/
namespace Go.Proofs.YtfkpdbmgiefnfaaDoor
open Go.RowKit

theorem sum_zero (w : World) (t : TypeId) : SumIs (w.alloc (.cells zIn.toArray t)) w.heap.size t [] :=
  ⟨_, _, Took.zero, by rw [List.length_replicate], VRow.new w t zIn⟩
end Go.Proofs.YtfkpdbmgiefnfaaDoor

/-
  hash.Double and Sum.Twice, walked. Conditions: the size stays below 2^59; the roots are laid.
-/
namespace Go.Proofs.YtfkpdbmgiefnfaaDoor
open Go.RowKit

theorem IRow.bytes {w : World} {g : Nat} {t : TypeId} {bs : List UInt8} (h : IRow w g t .u8 (nums bs)) (hl : bs.length ≤ maxLen) : Byt w (g + 1) (.slice (some ⟨g, 0, none⟩) bs.length bs.length) bs :=
  ⟨_, _, rfl, Nat.le_refl _, hl, (by intro h; cases h), fun _ => ⟨g, 0, rfl, Nat.lt_succ_self _, fun j u hu => by
    rw [Nat.zero_add]
    exact h.cell (by unfold nums; rw [List.getElem?_map, hu]; rfl)⟩⟩

end Go.Proofs.YtfkpdbmgiefnfaaDoor

/-
  hash.Hmac512, walked. Conditions: the sizes stay below 2^58; the roots are laid.
-/
namespace Go.Proofs.YtfkpdbmgiefnfaaDoor
open Go.RowKit

/-- The key that stands in the pads. -/
def keyOf (key : List UInt8) : List UInt8 := if 128 < key.length then S5.sha512 key else key
theorem keyOf_length (key : List UInt8) : (keyOf key).length ≤ 128 := by
  unfold keyOf
  split
  · rw [S5.sha512_length]; omega
  · omega
def hmac (key data : List UInt8) : List UInt8 := S5.sha512 (padK (keyOf key) 92 ++ S5.sha512 (padK (keyOf key) 54 ++ data))
theorem joined_two (v u : Value) (a b : List UInt8) : joined [(v, a), (u, b)] = a ++ b := by simp [joined]
theorem total_two (v u : Value) (a b : List UInt8) : total [(v, a), (u, b)] = a.length + b.length := by simp [total]
theorem irow_byt {w : World} {g n : Nat} {t : TypeId} {bs : List UInt8} (h : IRow w g t .u8 (nums bs)) (hl : bs.length = n) (hn : n ≤ maxLen) : Byt w (g + 1) (.slice (some ⟨g, 0, none⟩) n n) bs := by
  have := h.bytes (by omega)
  rw [hl] at this
  exact this
theorem bag_two {w : World} {v u : Value} {a b : List UInt8} (h1 : Byt w w.heap.size v a) (h2 : Byt w w.heap.size u b) : BagR (w.alloc (.cells [v, u].toArray 22)) (w.heap.size + 1) (.slice (some ⟨w.heap.size, 0, none⟩) 2 2) [(v, a), (u, b)] :=
  BagR.made w 22 [v, u] [(v, a), (u, b)] rfl (by unfold maxLen; simp) (fun p hp => by
    rcases List.mem_cons.1 hp with rfl | hp
    · exact h1
    · rw [List.mem_singleton.1 hp]; exact h2)

set_option maxRecDepth 100000 in
set_option maxHeartbeats 6400000 in
theorem hmac_any (B : Nat) (x y : Value) (key data : List UInt8) (w : World) (hx : Byt w B x key) (hy : Byt w B y data) (hB : B ≤ w.heap.size) (hk : key.length < 288230376151711744) (hd : data.length < 288230376151711744) (hroots : Roots w) :
    Calls Tryd.prog 17 #[x, y] w fun e w' => e = .returned (digV (hmac key data)) ∧ Below w.heap.size w w' := by
  obtain ⟨A, c, hxf⟩ := hx.form
  subst hxf
  obtain ⟨A', c', hyf⟩ := hy.form
  subst hyf
  have z64 := S5.zero_64
  have z128 := zero_128
  have rA := IRow.new w 51 .u8 (List.replicate 64 0)
  have bA : Below w.heap.size w (w.alloc (.cells ((List.replicate 64 (0 : Int)).map (Value.int .u8)).toArray 51)) := (Below.refl _ w).alloc (Nat.le_refl _) _
  have HX := Lib.hid hx
  have HY := Lib.hid hy
  have HR := Lib.hid hroots
  clear hx hy hroots
  go_enter Tryd.func17, Tryd.ntmps17
  go_upto_region 1 with fail
  change Code.wp _ _ _ _ (w.alloc (.cells ((List.replicate 64 (0 : Int)).map (Value.int .u8)).toArray 51))
  obtain ⟨wA, hwA⟩ : ∃ x, x = (w.alloc (.cells ((List.replicate 64 (0 : Int)).map (Value.int .u8)).toArray 51)) := ⟨_, rfl⟩
  rw [← hwA] at rA bA ⊢
  obtain ⟨GA, hGA⟩ : ∃ g, g = w.heap.size := ⟨_, rfl⟩
  rw [← hGA] at rA bA ⊢
  have DT0 := HY
  have DT := Lib.hid (HY.out.below (bA.mono (by omega)))
  have KT := Lib.hid (HX.out.below (bA.mono (by omega)))
  have RA := Lib.hid rA
  have BE := Lib.hid bA
  have HGA := Lib.hid hGA
  have hBG : B ≤ GA := by omega
  clear hwA rA bA hGA HX
  try dsimp only [Act.put]
  go_upto_if 11 with fail
  go_cut [0] (fun v0 wx => (∃ A2 c2, v0 = .slice A2 (keyOf key).length c2) ∧ Byt wx wx.heap.size v0 (keyOf key) ∧ IRow wx GA 51 .u8 (List.replicate 64 0) ∧ Below GA w wx)
  case first =>
    by_cases hk : 128 < key.length
    · have hki : (128 : Int) < (key.length : Int) := by omega
      obtain ⟨D, hD⟩ : ∃ D, D = S5.sha512 key := ⟨_, rfl⟩
      have hko : keyOf key = D := by unfold keyOf; rw [if_pos hk, hD]
      have HD := Lib.hid (show D.length = 64 by rw [hD, S5.sha512_length])
      have c1 := s512_any B _ key wA KT.out (by have := BE.out.size; have := HGA.out; omega) (by omega) (HR.out.below (by rw [← HGA.out]; exact BE.out))
      rw [← hD] at c1
      have C1 := Lib.hid c1
      have HKO := Lib.hid hko
      clear c1 hD hko
      go_wp2_with fail
      refine C1.out.mono ?_
      rintro e w1 ⟨rfl, hb⟩
      have HI := Lib.hid (show (Tryd.prog.info? 51).map (·.size) = some (nums D).length by rw [nums_length, HD.out]; exact S5.info_64)
      have HL := Lib.hid (show (List.replicate 64 (0 : Int)).length = (nums D).length by rw [nums_length, HD.out]; rfl)
      have rC := IRow.new w1 51 .u8 (List.replicate 64 0)
      have rC2 := setRow_irow (ys := nums D) rC
      have bC : Below w1.heap.size w1 ((w1.alloc (.cells ((List.replicate 64 (0 : Int)).map (Value.int .u8)).toArray 51)).setRow w1.heap.size ((nums D).map (Value.int .u8)).toArray) := below_setRow ((Below.refl _ w1).alloc (Nat.le_refl _) _) (Nat.le_refl _) _
      have bS := hb.size
      have bB := hb.trans (bC.mono bS)
      have RC := Lib.hid rC
      have RC2 := Lib.hid rC2
      have BB := Lib.hid bB
      clear hb rC rC2 bC bB C1
      unfold digV
      go_upto_region 3 with (refine wpList_store_irow rfl 51 (.tmp 5) (.tmp 13) rfl (g := w1.heap.size) (t := 51) (k := .u8) (xs := List.replicate 64 0) (ys := nums D) rfl rfl RC.out HI.out HL.out ?_)
      change Code.wp _ _ _ _ ((w1.alloc (.cells ((List.replicate 64 (0 : Int)).map (Value.int .u8)).toArray 51)).setRow w1.heap.size ((nums D).map (Value.int .u8)).toArray)
      obtain ⟨w2, hw2⟩ : ∃ x, x = ((w1.alloc (.cells ((List.replicate 64 (0 : Int)).map (Value.int .u8)).toArray 51)).setRow w1.heap.size ((nums D).map (Value.int .u8)).toArray) := ⟨_, rfl⟩
      rw [← hw2]
      have rC3 : IRow w2 w1.heap.size 51 .u8 (nums D) := by rw [hw2]; exact RC2.out
      have bB3 := BB.out
      rw [← hw2] at bB3
      obtain ⟨G5, hG⟩ : ∃ g, g = w1.heap.size := ⟨_, rfl⟩
      rw [← hG] at rC3 ⊢
      have ra := RA.out.below bB3 RA.out.lt
      have be := BE.out.trans (bB3.mono (Nat.le_of_lt RA.out.lt))
      have dt := DT.out.below (bB3.mono (by have := BE.out.size; have := HGA.out; omega))
      have RA := Lib.hid ra
      have BE := Lib.hid be
      have DT := Lib.hid dt
      have RG5 := Lib.hid rC3
      clear ra be dt rC3 bB3 hw2 hG RC RC2 BB HI HL bS
      try dsimp only [Act.put]
      go_wp2_with fail
      go_meet
      have h := irow_byt RG5.out HD.out (by unfold maxLen; omega)
      rw [HKO.out, HD.out]
      exact ⟨⟨_, _, rfl⟩, h.more (by have := RG5.out.lt; omega), RA.out, BE.out⟩
    · have hki : ¬ (128 : Int) < (key.length : Int) := by omega
      have HKO := Lib.hid (show keyOf key = key by unfold keyOf; rw [if_neg hk])
      go_wp2_with fail
      go_meet
      rw [HKO.out]
      exact ⟨⟨_, _, rfl⟩, KT.out.more (by have := BE.out.size; have := HGA.out; omega), RA.out, BE.out⟩
  case rest =>
    obtain ⟨⟨A2, c2, rfl⟩, kt, ra, be⟩ := hcut
    have DT2 := Lib.hid (show Byt wc B (.slice A' data.length c') data from (DT0.out.below (be.mono hBG)))
    obtain ⟨K, hK⟩ : ∃ K, K = keyOf key := ⟨_, rfl⟩
    have hKl := keyOf_length key
    rw [← hK] at kt hKl ⊢
    obtain ⟨PI, hPI⟩ : ∃ l, l = padK K 54 := ⟨_, rfl⟩
    obtain ⟨PO, hPO⟩ : ∃ l, l = padK K 92 := ⟨_, rfl⟩
    have HPI := Lib.hid (show PI.length = 128 by rw [hPI, padK_length _ hKl])
    have HPO := Lib.hid (show PO.length = 128 by rw [hPO, padK_length _ hKl])
    obtain ⟨D1, hD1⟩ : ∃ l, l = S5.sha512 (PI ++ data) := ⟨_, rfl⟩
    obtain ⟨D2, hD2⟩ : ∃ l, l = S5.sha512 (PO ++ D1) := ⟨_, rfl⟩
    have HD1 := Lib.hid (show D1.length = 64 by rw [hD1, S5.sha512_length])
    have HD2 := Lib.hid (show D2.length = 64 by rw [hD2, S5.sha512_length])
    have HEND := Lib.hid (show hmac key data = D2 by unfold hmac; rw [hD2, hD1, hPO, hPI, hK])
    have c1 := hpad_any _ _ K 54 54 wc rfl kt (Nat.le_refl _) hKl
    rw [← hPI] at c1
    have C1 := Lib.hid c1
    have KT := Lib.hid kt
    have RA := Lib.hid ra
    have BE := Lib.hid be
    have HKL := Lib.hid hKl
    have DT := DT2
    have HQI := Lib.hid hPI
    have HQO := Lib.hid hPO
    have HQ1 := Lib.hid hD1
    have HQ2 := Lib.hid hD2
    clear c1 kt ra be hK hKl hPI hPO hD1 hD2 DT2
    go_wp2_with fail
    refine C1.out.mono ?_
    rintro e w3 ⟨rfl, hb⟩
    have HI := Lib.hid (show (Tryd.prog.info? 66).map (·.size) = some (nums PI).length by rw [nums_length, HPI.out]; exact info_128)
    have HL := Lib.hid (show (List.replicate 128 (0 : Int)).length = (nums PI).length by rw [nums_length, HPI.out]; rfl)
    have rC := IRow.new w3 66 .u8 (List.replicate 128 0)
    have rC2 := setRow_irow (ys := nums PI) rC
    have bC : Below w3.heap.size w3 ((w3.alloc (.cells ((List.replicate 128 (0 : Int)).map (Value.int .u8)).toArray 66)).setRow w3.heap.size ((nums PI).map (Value.int .u8)).toArray) := below_setRow ((Below.refl _ w3).alloc (Nat.le_refl _) _) (Nat.le_refl _) _
    have bS := hb.size
    have bB := hb.trans (bC.mono bS)
    have RC := Lib.hid rC
    have RC2 := Lib.hid rC2
    have BB := Lib.hid bB
    clear hb rC rC2 bC bB C1
    unfold digV
    go_upto_region 5 with (refine wpList_store_irow rfl 66 (.tmp 6) (.tmp 16) rfl (g := w3.heap.size) (t := 66) (k := .u8) (xs := List.replicate 128 0) (ys := nums PI) rfl rfl RC.out HI.out HL.out ?_)
    change Code.wp _ _ _ _ ((w3.alloc (.cells ((List.replicate 128 (0 : Int)).map (Value.int .u8)).toArray 66)).setRow w3.heap.size ((nums PI).map (Value.int .u8)).toArray)
    obtain ⟨w4, hw2⟩ : ∃ x, x = ((w3.alloc (.cells ((List.replicate 128 (0 : Int)).map (Value.int .u8)).toArray 66)).setRow w3.heap.size ((nums PI).map (Value.int .u8)).toArray) := ⟨_, rfl⟩
    rw [← hw2]
    have rC3 : IRow w4 w3.heap.size 66 .u8 (nums PI) := by rw [hw2]; exact RC2.out
    have bB3 := BB.out
    rw [← hw2] at bB3
    have kt := KT.out.below bB3
    obtain ⟨G6, hG⟩ : ∃ g, g = w3.heap.size := ⟨_, rfl⟩
    rw [← hG] at rC3 ⊢
    have ra := RA.out.below bB3 RA.out.lt
    have be := BE.out.trans (bB3.mono (Nat.le_of_lt RA.out.lt))
    have dt := DT.out.below (bB3.mono (by have := BE.out.size; have := HGA.out; omega))
    have RA := Lib.hid ra
    have BE := Lib.hid be
    have DT := Lib.hid dt
    have KT := Lib.hid (kt.more (by have := rC3.lt; have := bB3.size; omega))
    have RG6 := Lib.hid rC3
    clear ra be dt rC3 bB3 kt hw2 hG RC RC2 BB HI HL bS
    try dsimp only [Act.put]
    have c1 := hpad_any _ _ K 92 92 w4 rfl KT.out (Nat.le_refl _) HKL.out
    rw [← HQO.out] at c1
    have C1 := Lib.hid c1
    clear c1
    go_wp2_with fail
    refine C1.out.mono ?_
    rintro e w5 ⟨rfl, hb⟩
    have HI := Lib.hid (show (Tryd.prog.info? 66).map (·.size) = some (nums PO).length by rw [nums_length, HPO.out]; exact info_128)
    have HL := Lib.hid (show (List.replicate 128 (0 : Int)).length = (nums PO).length by rw [nums_length, HPO.out]; rfl)
    have rC := IRow.new w5 66 .u8 (List.replicate 128 0)
    have rC2 := setRow_irow (ys := nums PO) rC
    have bC : Below w5.heap.size w5 ((w5.alloc (.cells ((List.replicate 128 (0 : Int)).map (Value.int .u8)).toArray 66)).setRow w5.heap.size ((nums PO).map (Value.int .u8)).toArray) := below_setRow ((Below.refl _ w5).alloc (Nat.le_refl _) _) (Nat.le_refl _) _
    have bS := hb.size
    have bB := hb.trans (bC.mono bS)
    have RC := Lib.hid rC
    have RC2 := Lib.hid rC2
    have BB := Lib.hid bB
    clear hb rC rC2 bC bB C1
    unfold digV
    go_upto_region 6 with (refine wpList_store_irow rfl 66 (.tmp 7) (.tmp 18) rfl (g := w5.heap.size) (t := 66) (k := .u8) (xs := List.replicate 128 0) (ys := nums PO) rfl rfl RC.out HI.out HL.out ?_)
    change Code.wp _ _ _ _ ((w5.alloc (.cells ((List.replicate 128 (0 : Int)).map (Value.int .u8)).toArray 66)).setRow w5.heap.size ((nums PO).map (Value.int .u8)).toArray)
    obtain ⟨w6, hw2⟩ : ∃ x, x = ((w5.alloc (.cells ((List.replicate 128 (0 : Int)).map (Value.int .u8)).toArray 66)).setRow w5.heap.size ((nums PO).map (Value.int .u8)).toArray) := ⟨_, rfl⟩
    rw [← hw2]
    have rC3 : IRow w6 w5.heap.size 66 .u8 (nums PO) := by rw [hw2]; exact RC2.out
    have bB3 := BB.out
    rw [← hw2] at bB3
    obtain ⟨G7, hG⟩ : ∃ g, g = w5.heap.size := ⟨_, rfl⟩
    rw [← hG] at rC3 ⊢
    have ra := RA.out.below bB3 RA.out.lt
    have be := BE.out.trans (bB3.mono (Nat.le_of_lt RA.out.lt))
    have dt := DT.out.below (bB3.mono (by have := BE.out.size; have := HGA.out; omega))
    have rg6 := RG6.out.below bB3 RG6.out.lt
    have RA := Lib.hid ra
    have BE := Lib.hid be
    have DT := Lib.hid dt
    have RG6 := Lib.hid rg6
    have RG7 := Lib.hid rC3
    clear ra be dt rg6 rC3 bB3 hw2 hG RC RC2 BB HI HL bS
    try dsimp only [Act.put]
    have b1 := (irow_byt RG6.out HPI.out (by unfold maxLen; omega)).more (by have := RG6.out.lt; have := RG7.out.lt; omega : _ ≤ w6.heap.size)
    have b2 := (DT.out).more (by have := BE.out.size; have := HGA.out; omega : _ ≤ w6.heap.size)
    have bg := bag_two b1 b2
    have bW : Below w6.heap.size w6 (w6.alloc (.cells [Value.slice (some ⟨G6, 0, none⟩) 128 128, Value.slice A' data.length c'].toArray 22)) := (Below.refl _ w6).alloc (Nat.le_refl _) _
    have rb := RA.out.lt
    have be2 := BE.out.trans (bW.mono (Nat.le_of_lt rb))
    have c1 := S5.sum512_any _ _ _ (w6.alloc (.cells [Value.slice (some ⟨G6, 0, none⟩) 128 128, Value.slice A' data.length c'].toArray 22)) bg (by simp) (by rw [total_two, HPI.out]; omega) (HR.out.below (by rw [← HGA.out]; exact be2))
    rw [joined_two, ← HQ1.out] at c1
    have C1 := Lib.hid c1
    have DT := Lib.hid (DT.out.below (bW.mono (by have := BE.out.size; have := HGA.out; omega)))
    have RG6 := Lib.hid (RG6.out.below bW RG6.out.lt)
    have RG7 := Lib.hid (RG7.out.below bW RG7.out.lt)
    have BE := Lib.hid be2
    have RA := Lib.hid (RA.out.below bW RA.out.lt)
    clear b1 b2 bg bW rb be2 c1
    go_wp2_with fail
    refine C1.out.mono ?_
    rintro e w7 ⟨rfl, hb⟩
    have HI := Lib.hid (show (Tryd.prog.info? 51).map (·.size) = some (nums D1).length by rw [nums_length, HD1.out]; exact S5.info_64)
    have HL := Lib.hid (show (List.replicate 64 (0 : Int)).length = (nums D1).length by rw [nums_length, HD1.out]; rfl)
    have rC := IRow.new w7 51 .u8 (List.replicate 64 0)
    have rC2 := setRow_irow (ys := nums D1) rC
    have bC : Below w7.heap.size w7 ((w7.alloc (.cells ((List.replicate 64 (0 : Int)).map (Value.int .u8)).toArray 51)).setRow w7.heap.size ((nums D1).map (Value.int .u8)).toArray) := below_setRow ((Below.refl _ w7).alloc (Nat.le_refl _) _) (Nat.le_refl _) _
    have bS := hb.size
    have bB := hb.trans (bC.mono bS)
    have RC := Lib.hid rC
    have RC2 := Lib.hid rC2
    have BB := Lib.hid bB
    clear hb rC rC2 bC bB C1
    unfold digV
    go_upto_region 7 with (refine wpList_store_irow rfl 51 (.tmp 8) (.tmp 22) rfl (g := w7.heap.size) (t := 51) (k := .u8) (xs := List.replicate 64 0) (ys := nums D1) rfl rfl RC.out HI.out HL.out ?_)
    change Code.wp _ _ _ _ ((w7.alloc (.cells ((List.replicate 64 (0 : Int)).map (Value.int .u8)).toArray 51)).setRow w7.heap.size ((nums D1).map (Value.int .u8)).toArray)
    obtain ⟨w8, hw2⟩ : ∃ x, x = ((w7.alloc (.cells ((List.replicate 64 (0 : Int)).map (Value.int .u8)).toArray 51)).setRow w7.heap.size ((nums D1).map (Value.int .u8)).toArray) := ⟨_, rfl⟩
    rw [← hw2]
    have rC3 : IRow w8 w7.heap.size 51 .u8 (nums D1) := by rw [hw2]; exact RC2.out
    have bB3 := BB.out
    rw [← hw2] at bB3
    obtain ⟨G8, hG⟩ : ∃ g, g = w7.heap.size := ⟨_, rfl⟩
    rw [← hG] at rC3 ⊢
    have ra := RA.out.below bB3 RA.out.lt
    have be := BE.out.trans (bB3.mono (Nat.le_of_lt RA.out.lt))
    have rg6 := RG6.out.below bB3 RG6.out.lt
    have rg7 := RG7.out.below bB3 RG7.out.lt
    have RA := Lib.hid ra
    have BE := Lib.hid be
    have RG6 := Lib.hid rg6
    have RG7 := Lib.hid rg7
    have RG8 := Lib.hid rC3
    clear ra be rg6 rg7 rC3 bB3 hw2 hG RC RC2 BB HI HL bS
    try dsimp only [Act.put]
    have bx : Below w8.heap.size w8 w8.drew := ⟨rfl, rfl, rfl, Nat.le_refl _, fun _ _ => rfl⟩
    have BE := Lib.hid (BE.out.trans (bx.mono (Nat.le_of_lt RA.out.lt)))
    have RA := Lib.hid (RA.out.below bx RA.out.lt)
    have RG6 := Lib.hid (RG6.out.below bx RG6.out.lt)
    have RG7 := Lib.hid (RG7.out.below bx RG7.out.lt)
    have RG8 := Lib.hid (RG8.out.below bx RG8.out.lt)
    clear bx
    refine wp_region_still_tail 2 (by kernel_rfl) (by kernel_rfl) ?_
    simp only [List.take_succ_cons, List.take_zero, List.drop_succ_cons, List.drop_zero]
    change wpStill _ _ (w8.drew) _ _ _
    repeat still_step
    refine wpStill_nil ?_
    change wpList _ _ _ _ _ w8.drew
    obtain ⟨w9, hw9⟩ : ∃ x, x = w8.drew := ⟨_, rfl⟩
    rw [← hw9] at BE RA RG6 RG7 RG8 ⊢
    clear hw9
    have b1 := (irow_byt RG7.out HPO.out (by unfold maxLen; omega)).more (by have := RG6.out.lt; have := RG7.out.lt; omega : _ ≤ w9.heap.size)
    have b2 := (irow_byt RG8.out HD1.out (by unfold maxLen; omega)).more (by have := RG8.out.lt; omega : _ ≤ w9.heap.size)
    have bg := bag_two b1 b2
    have bW : Below w9.heap.size w9 (w9.alloc (.cells [Value.slice (some ⟨G7, 0, none⟩) 128 128, Value.slice (some ⟨G8, 0, none⟩) 64 64].toArray 22)) := (Below.refl _ w9).alloc (Nat.le_refl _) _
    have rb := RA.out.lt
    have be2 := BE.out.trans (bW.mono (Nat.le_of_lt rb))
    have c1 := S5.sum512_any _ _ _ (w9.alloc (.cells [Value.slice (some ⟨G7, 0, none⟩) 128 128, Value.slice (some ⟨G8, 0, none⟩) 64 64].toArray 22)) bg (by simp) (by rw [total_two, HPO.out, HD1.out]; omega) (HR.out.below (by rw [← HGA.out]; exact be2))
    rw [joined_two, ← HQ2.out] at c1
    have C1 := Lib.hid c1
    have BE := Lib.hid be2
    have RA := Lib.hid (RA.out.below bW RA.out.lt)
    clear b1 b2 bg bW rb be2 c1
    go_wp2_with fail
    refine C1.out.mono ?_
    rintro e w10 ⟨rfl, hb⟩
    have HI := Lib.hid (show (Tryd.prog.info? 51).map (·.size) = some (nums D2).length by rw [nums_length, HD2.out]; exact S5.info_64)
    have HL := Lib.hid (show (List.replicate 64 (0 : Int)).length = (nums D2).length by rw [nums_length, HD2.out]; rfl)
    have ra := RA.out.below hb RA.out.lt
    have be := BE.out.trans (hb.mono (Nat.le_of_lt RA.out.lt))
    have HFIN := Lib.hid (setRow_irow (ys := nums D2) ra)
    have HBF := Lib.hid (below_setRow be (Nat.le_refl _) ((nums D2).map (Value.int .u8)).toArray)
    have RA := Lib.hid ra
    clear ra be hb C1
    unfold digV
    go_wp2_with (refine wpList_store_irow rfl 51 (.tmp 4) (.tmp 26) rfl (g := GA) (t := 51) (k := .u8) (xs := List.replicate 64 0) (ys := nums D2) rfl rfl RA.out HI.out HL.out ?_)
    refine bodyPost_ret (v := digV D2) ?_ rfl ⟨by rw [HEND.out], by rw [← HGA.out]; exact HBF.out⟩
    obtain ⟨fr, hrw⟩ : ∃ fr, ((w10.setRow GA ((nums D2).map (Value.int .u8)).toArray)).heap[GA]? = some (.cells ((nums D2).map (Value.int .u8)).toArray 51 fr) := ⟨_, HFIN.out⟩
    exact results_cell_row Tryd.results17 _ _ GA 51 ((nums D2).map (Value.int .u8)).toArray fr _ rfl hrw Tryd.underlying51 rfl (by rw [List.size_toArray, List.length_map]; exact HI.out)
end Go.Proofs.YtfkpdbmgiefnfaaDoor
