/-
  Texts joined: HbMac, HbRmac, HbLaw. Conditions: those of each.
-/
import Derived.Test.YtpcopimbnbmkmaaDoorL26
import Derived.Test.YtpcopimbnbmkmaaDoorL14
import Derived.Test.YtpcopimbnbmkmaaDoorL15
import Derived.Test.YtpcopimbnbmkmaaDoorL7
import Derived.Deep.CutBlock
import Derived.StillTailTactics
import Derived.Test.YtpcopimbnbmkmaaDoorL20
import Derived.Test.YtpcopimbnbmkmaaDoorL17
import Derived.Deep.Onto
/-
  hash.Hmac512, walked. Conditions: the sizes stay below 2^58; the roots are laid.
-/
namespace Go.Proofs.YtpcopimbnbmkmaaDoor
open Go.RowKit

/-- The key that stands in the pads. -/
def keyOf (key : List UInt8) : List UInt8 := if 128 < key.length then S5.sha512 key else key
theorem keyOf_length (key : List UInt8) : (keyOf key).length ≤ 128 := by
  unfold keyOf
  split
  · rw [S5.sha512_length]; omega
  · omega
def hmac (key data : List UInt8) : List UInt8 := S5.sha512 (padK (keyOf key) 92 ++ S5.sha512 (padK (keyOf key) 54 ++ data))
theorem joined_two (v u : Value) (a b : List UInt8) : joined [(v, a), (u, b)] = a ++ b := by simp [joined]
theorem total_two (v u : Value) (a b : List UInt8) : total [(v, a), (u, b)] = a.length + b.length := by simp [total]
theorem irow_byt {w : World} {g n : Nat} {t : TypeId} {bs : List UInt8} (h : IRow w g t .u8 (nums bs)) (hl : bs.length = n) (hn : n ≤ maxLen) : Byt w (g + 1) (.slice (some ⟨g, 0, none⟩) n n) bs := by
  have := h.bytes (by omega)
  rw [hl] at this
  exact this
theorem bag_two {w : World} {v u : Value} {a b : List UInt8} (h1 : Byt w w.heap.size v a) (h2 : Byt w w.heap.size u b) : BagR (w.alloc (.cells [v, u].toArray 22)) (w.heap.size + 1) (.slice (some ⟨w.heap.size, 0, none⟩) 2 2) [(v, a), (u, b)] :=
  BagR.made w 22 [v, u] [(v, a), (u, b)] rfl (by unfold maxLen; simp) (fun p hp => by
    rcases List.mem_cons.1 hp with rfl | hp
    · exact h1
    · rw [List.mem_singleton.1 hp]; exact h2)

set_option maxRecDepth 100000 in
set_option maxHeartbeats 6400000 in
theorem hmac_any (B : Nat) (x y : Value) (key data : List UInt8) (w : World) (hx : Byt w B x key) (hy : Byt w B y data) (hB : B ≤ w.heap.size) (hk : key.length < 288230376151711744) (hd : data.length < 288230376151711744) (hroots : Roots w) :
    Calls Tryd.prog 19 #[x, y] w fun e w' => e = .returned (digV (hmac key data)) ∧ Below w.heap.size w w' := by
  obtain ⟨A, c, hxf⟩ := hx.form
  subst hxf
  obtain ⟨A', c', hyf⟩ := hy.form
  subst hyf
  have z64 := S5.zero_64
  have z128 := zero_128
  have rA := IRow.new w 31 .u8 (List.replicate 64 0)
  have bA : Below w.heap.size w (w.alloc (.cells ((List.replicate 64 (0 : Int)).map (Value.int .u8)).toArray 31)) := (Below.refl _ w).alloc (Nat.le_refl _) _
  have HX := Lib.hid hx
  have HY := Lib.hid hy
  have HR := Lib.hid hroots
  clear hx hy hroots
  go_enter Tryd.func19, Tryd.ntmps19
  go_upto_region 1 with fail
  change Code.wp _ _ _ _ (w.alloc (.cells ((List.replicate 64 (0 : Int)).map (Value.int .u8)).toArray 31))
  obtain ⟨wA, hwA⟩ : ∃ x, x = (w.alloc (.cells ((List.replicate 64 (0 : Int)).map (Value.int .u8)).toArray 31)) := ⟨_, rfl⟩
  rw [← hwA] at rA bA ⊢
  obtain ⟨GA, hGA⟩ : ∃ g, g = w.heap.size := ⟨_, rfl⟩
  rw [← hGA] at rA bA ⊢
  have DT0 := HY
  have DT := Lib.hid (HY.out.below (bA.mono (by omega)))
  have KT := Lib.hid (HX.out.below (bA.mono (by omega)))
  have RA := Lib.hid rA
  have BE := Lib.hid bA
  have HGA := Lib.hid hGA
  have hBG : B ≤ GA := by omega
  clear hwA rA bA hGA HX
  try dsimp only [Act.put]
  go_upto_if 11 with fail
  go_cut [0] (fun v0 wx => (∃ A2 c2, v0 = .slice A2 (keyOf key).length c2) ∧ Byt wx wx.heap.size v0 (keyOf key) ∧ IRow wx GA 31 .u8 (List.replicate 64 0) ∧ Below GA w wx)
  case first =>
    by_cases hk : 128 < key.length
    · have hki : (128 : Int) < (key.length : Int) := by omega
      obtain ⟨D, hD⟩ : ∃ D, D = S5.sha512 key := ⟨_, rfl⟩
      have hko : keyOf key = D := by unfold keyOf; rw [if_pos hk, hD]
      have HD := Lib.hid (show D.length = 64 by rw [hD, S5.sha512_length])
      have c1 := s512_any B _ key wA KT.out (by have := BE.out.size; have := HGA.out; omega) (by omega) (HR.out.below (by rw [← HGA.out]; exact BE.out))
      rw [← hD] at c1
      have C1 := Lib.hid c1
      have HKO := Lib.hid hko
      clear c1 hD hko
      go_wp2_with fail
      refine C1.out.mono ?_
      rintro e w1 ⟨rfl, hb⟩
      have HI := Lib.hid (show (Tryd.prog.info? 31).map (·.size) = some (nums D).length by rw [nums_length, HD.out]; exact S5.info_64)
      have HL := Lib.hid (show (List.replicate 64 (0 : Int)).length = (nums D).length by rw [nums_length, HD.out]; rfl)
      have rC := IRow.new w1 31 .u8 (List.replicate 64 0)
      have rC2 := setRow_irow (ys := nums D) rC
      have bC : Below w1.heap.size w1 ((w1.alloc (.cells ((List.replicate 64 (0 : Int)).map (Value.int .u8)).toArray 31)).setRow w1.heap.size ((nums D).map (Value.int .u8)).toArray) := below_setRow ((Below.refl _ w1).alloc (Nat.le_refl _) _) (Nat.le_refl _) _
      have bS := hb.size
      have bB := hb.trans (bC.mono bS)
      have RC := Lib.hid rC
      have RC2 := Lib.hid rC2
      have BB := Lib.hid bB
      clear hb rC rC2 bC bB C1
      unfold digV
      go_upto_region 3 with (refine wpList_store_irow rfl 31 (.tmp 5) (.tmp 13) rfl (g := w1.heap.size) (t := 31) (k := .u8) (xs := List.replicate 64 0) (ys := nums D) rfl rfl RC.out HI.out HL.out ?_)
      change Code.wp _ _ _ _ ((w1.alloc (.cells ((List.replicate 64 (0 : Int)).map (Value.int .u8)).toArray 31)).setRow w1.heap.size ((nums D).map (Value.int .u8)).toArray)
      obtain ⟨w2, hw2⟩ : ∃ x, x = ((w1.alloc (.cells ((List.replicate 64 (0 : Int)).map (Value.int .u8)).toArray 31)).setRow w1.heap.size ((nums D).map (Value.int .u8)).toArray) := ⟨_, rfl⟩
      rw [← hw2]
      have rC3 : IRow w2 w1.heap.size 31 .u8 (nums D) := by rw [hw2]; exact RC2.out
      have bB3 := BB.out
      rw [← hw2] at bB3
      obtain ⟨G5, hG⟩ : ∃ g, g = w1.heap.size := ⟨_, rfl⟩
      rw [← hG] at rC3 ⊢
      have ra := RA.out.below bB3 RA.out.lt
      have be := BE.out.trans (bB3.mono (Nat.le_of_lt RA.out.lt))
      have dt := DT.out.below (bB3.mono (by have := BE.out.size; have := HGA.out; omega))
      have RA := Lib.hid ra
      have BE := Lib.hid be
      have DT := Lib.hid dt
      have RG5 := Lib.hid rC3
      clear ra be dt rC3 bB3 hw2 hG RC RC2 BB HI HL bS
      try dsimp only [Act.put]
      go_wp2_with fail
      go_meet
      have h := irow_byt RG5.out HD.out (by unfold maxLen; omega)
      rw [HKO.out, HD.out]
      exact ⟨⟨_, _, rfl⟩, h.more (by have := RG5.out.lt; omega), RA.out, BE.out⟩
    · have hki : ¬ (128 : Int) < (key.length : Int) := by omega
      have HKO := Lib.hid (show keyOf key = key by unfold keyOf; rw [if_neg hk])
      go_wp2_with fail
      go_meet
      rw [HKO.out]
      exact ⟨⟨_, _, rfl⟩, KT.out.more (by have := BE.out.size; have := HGA.out; omega), RA.out, BE.out⟩
  case rest =>
    obtain ⟨⟨A2, c2, rfl⟩, kt, ra, be⟩ := hcut
    have DT2 := Lib.hid (show Byt wc B (.slice A' data.length c') data from (DT0.out.below (be.mono hBG)))
    obtain ⟨K, hK⟩ : ∃ K, K = keyOf key := ⟨_, rfl⟩
    have hKl := keyOf_length key
    rw [← hK] at kt hKl ⊢
    obtain ⟨PI, hPI⟩ : ∃ l, l = padK K 54 := ⟨_, rfl⟩
    obtain ⟨PO, hPO⟩ : ∃ l, l = padK K 92 := ⟨_, rfl⟩
    have HPI := Lib.hid (show PI.length = 128 by rw [hPI, padK_length _ hKl])
    have HPO := Lib.hid (show PO.length = 128 by rw [hPO, padK_length _ hKl])
    obtain ⟨D1, hD1⟩ : ∃ l, l = S5.sha512 (PI ++ data) := ⟨_, rfl⟩
    obtain ⟨D2, hD2⟩ : ∃ l, l = S5.sha512 (PO ++ D1) := ⟨_, rfl⟩
    have HD1 := Lib.hid (show D1.length = 64 by rw [hD1, S5.sha512_length])
    have HD2 := Lib.hid (show D2.length = 64 by rw [hD2, S5.sha512_length])
    have HEND := Lib.hid (show hmac key data = D2 by unfold hmac; rw [hD2, hD1, hPO, hPI, hK])
    have c1 := hpad_any _ _ K 54 54 wc rfl kt (Nat.le_refl _) hKl
    rw [← hPI] at c1
    have C1 := Lib.hid c1
    have KT := Lib.hid kt
    have RA := Lib.hid ra
    have BE := Lib.hid be
    have HKL := Lib.hid hKl
    have DT := DT2
    have HQI := Lib.hid hPI
    have HQO := Lib.hid hPO
    have HQ1 := Lib.hid hD1
    have HQ2 := Lib.hid hD2
    clear c1 kt ra be hK hKl hPI hPO hD1 hD2 DT2
    go_wp2_with fail
    refine C1.out.mono ?_
    rintro e w3 ⟨rfl, hb⟩
    have HI := Lib.hid (show (Tryd.prog.info? 41).map (·.size) = some (nums PI).length by rw [nums_length, HPI.out]; exact info_128)
    have HL := Lib.hid (show (List.replicate 128 (0 : Int)).length = (nums PI).length by rw [nums_length, HPI.out]; rfl)
    have rC := IRow.new w3 41 .u8 (List.replicate 128 0)
    have rC2 := setRow_irow (ys := nums PI) rC
    have bC : Below w3.heap.size w3 ((w3.alloc (.cells ((List.replicate 128 (0 : Int)).map (Value.int .u8)).toArray 41)).setRow w3.heap.size ((nums PI).map (Value.int .u8)).toArray) := below_setRow ((Below.refl _ w3).alloc (Nat.le_refl _) _) (Nat.le_refl _) _
    have bS := hb.size
    have bB := hb.trans (bC.mono bS)
    have RC := Lib.hid rC
    have RC2 := Lib.hid rC2
    have BB := Lib.hid bB
    clear hb rC rC2 bC bB C1
    unfold digV
    go_upto_region 5 with (refine wpList_store_irow rfl 41 (.tmp 6) (.tmp 16) rfl (g := w3.heap.size) (t := 41) (k := .u8) (xs := List.replicate 128 0) (ys := nums PI) rfl rfl RC.out HI.out HL.out ?_)
    change Code.wp _ _ _ _ ((w3.alloc (.cells ((List.replicate 128 (0 : Int)).map (Value.int .u8)).toArray 41)).setRow w3.heap.size ((nums PI).map (Value.int .u8)).toArray)
    obtain ⟨w4, hw2⟩ : ∃ x, x = ((w3.alloc (.cells ((List.replicate 128 (0 : Int)).map (Value.int .u8)).toArray 41)).setRow w3.heap.size ((nums PI).map (Value.int .u8)).toArray) := ⟨_, rfl⟩
    rw [← hw2]
    have rC3 : IRow w4 w3.heap.size 41 .u8 (nums PI) := by rw [hw2]; exact RC2.out
    have bB3 := BB.out
    rw [← hw2] at bB3
    have kt := KT.out.below bB3
    obtain ⟨G6, hG⟩ : ∃ g, g = w3.heap.size := ⟨_, rfl⟩
    rw [← hG] at rC3 ⊢
    have ra := RA.out.below bB3 RA.out.lt
    have be := BE.out.trans (bB3.mono (Nat.le_of_lt RA.out.lt))
    have dt := DT.out.below (bB3.mono (by have := BE.out.size; have := HGA.out; omega))
    have RA := Lib.hid ra
    have BE := Lib.hid be
    have DT := Lib.hid dt
    have KT := Lib.hid (kt.more (by have := rC3.lt; have := bB3.size; omega))
    have RG6 := Lib.hid rC3
    clear ra be dt rC3 bB3 kt hw2 hG RC RC2 BB HI HL bS
    try dsimp only [Act.put]
    have c1 := hpad_any _ _ K 92 92 w4 rfl KT.out (Nat.le_refl _) HKL.out
    rw [← HQO.out] at c1
    have C1 := Lib.hid c1
    clear c1
    go_wp2_with fail
    refine C1.out.mono ?_
    rintro e w5 ⟨rfl, hb⟩
    have HI := Lib.hid (show (Tryd.prog.info? 41).map (·.size) = some (nums PO).length by rw [nums_length, HPO.out]; exact info_128)
    have HL := Lib.hid (show (List.replicate 128 (0 : Int)).length = (nums PO).length by rw [nums_length, HPO.out]; rfl)
    have rC := IRow.new w5 41 .u8 (List.replicate 128 0)
    have rC2 := setRow_irow (ys := nums PO) rC
    have bC : Below w5.heap.size w5 ((w5.alloc (.cells ((List.replicate 128 (0 : Int)).map (Value.int .u8)).toArray 41)).setRow w5.heap.size ((nums PO).map (Value.int .u8)).toArray) := below_setRow ((Below.refl _ w5).alloc (Nat.le_refl _) _) (Nat.le_refl _) _
    have bS := hb.size
    have bB := hb.trans (bC.mono bS)
    have RC := Lib.hid rC
    have RC2 := Lib.hid rC2
    have BB := Lib.hid bB
    clear hb rC rC2 bC bB C1
    unfold digV
    go_upto_region 6 with (refine wpList_store_irow rfl 41 (.tmp 7) (.tmp 18) rfl (g := w5.heap.size) (t := 41) (k := .u8) (xs := List.replicate 128 0) (ys := nums PO) rfl rfl RC.out HI.out HL.out ?_)
    change Code.wp _ _ _ _ ((w5.alloc (.cells ((List.replicate 128 (0 : Int)).map (Value.int .u8)).toArray 41)).setRow w5.heap.size ((nums PO).map (Value.int .u8)).toArray)
    obtain ⟨w6, hw2⟩ : ∃ x, x = ((w5.alloc (.cells ((List.replicate 128 (0 : Int)).map (Value.int .u8)).toArray 41)).setRow w5.heap.size ((nums PO).map (Value.int .u8)).toArray) := ⟨_, rfl⟩
    rw [← hw2]
    have rC3 : IRow w6 w5.heap.size 41 .u8 (nums PO) := by rw [hw2]; exact RC2.out
    have bB3 := BB.out
    rw [← hw2] at bB3
    obtain ⟨G7, hG⟩ : ∃ g, g = w5.heap.size := ⟨_, rfl⟩
    rw [← hG] at rC3 ⊢
    have ra := RA.out.below bB3 RA.out.lt
    have be := BE.out.trans (bB3.mono (Nat.le_of_lt RA.out.lt))
    have dt := DT.out.below (bB3.mono (by have := BE.out.size; have := HGA.out; omega))
    have rg6 := RG6.out.below bB3 RG6.out.lt
    have RA := Lib.hid ra
    have BE := Lib.hid be
    have DT := Lib.hid dt
    have RG6 := Lib.hid rg6
    have RG7 := Lib.hid rC3
    clear ra be dt rg6 rC3 bB3 hw2 hG RC RC2 BB HI HL bS
    try dsimp only [Act.put]
    have b1 := (irow_byt RG6.out HPI.out (by unfold maxLen; omega)).more (by have := RG6.out.lt; have := RG7.out.lt; omega : _ ≤ w6.heap.size)
    have b2 := (DT.out).more (by have := BE.out.size; have := HGA.out; omega : _ ≤ w6.heap.size)
    have bg := bag_two b1 b2
    have bW : Below w6.heap.size w6 (w6.alloc (.cells [Value.slice (some ⟨G6, 0, none⟩) 128 128, Value.slice A' data.length c'].toArray 22)) := (Below.refl _ w6).alloc (Nat.le_refl _) _
    have rb := RA.out.lt
    have be2 := BE.out.trans (bW.mono (Nat.le_of_lt rb))
    have c1 := S5.sum512_any _ _ _ (w6.alloc (.cells [Value.slice (some ⟨G6, 0, none⟩) 128 128, Value.slice A' data.length c'].toArray 22)) bg (by simp) (by rw [total_two, HPI.out]; omega) (HR.out.below (by rw [← HGA.out]; exact be2))
    rw [joined_two, ← HQ1.out] at c1
    have C1 := Lib.hid c1
    have DT := Lib.hid (DT.out.below (bW.mono (by have := BE.out.size; have := HGA.out; omega)))
    have RG6 := Lib.hid (RG6.out.below bW RG6.out.lt)
    have RG7 := Lib.hid (RG7.out.below bW RG7.out.lt)
    have BE := Lib.hid be2
    have RA := Lib.hid (RA.out.below bW RA.out.lt)
    clear b1 b2 bg bW rb be2 c1
    go_wp2_with fail
    refine C1.out.mono ?_
    rintro e w7 ⟨rfl, hb⟩
    have HI := Lib.hid (show (Tryd.prog.info? 31).map (·.size) = some (nums D1).length by rw [nums_length, HD1.out]; exact S5.info_64)
    have HL := Lib.hid (show (List.replicate 64 (0 : Int)).length = (nums D1).length by rw [nums_length, HD1.out]; rfl)
    have rC := IRow.new w7 31 .u8 (List.replicate 64 0)
    have rC2 := setRow_irow (ys := nums D1) rC
    have bC : Below w7.heap.size w7 ((w7.alloc (.cells ((List.replicate 64 (0 : Int)).map (Value.int .u8)).toArray 31)).setRow w7.heap.size ((nums D1).map (Value.int .u8)).toArray) := below_setRow ((Below.refl _ w7).alloc (Nat.le_refl _) _) (Nat.le_refl _) _
    have bS := hb.size
    have bB := hb.trans (bC.mono bS)
    have RC := Lib.hid rC
    have RC2 := Lib.hid rC2
    have BB := Lib.hid bB
    clear hb rC rC2 bC bB C1
    unfold digV
    go_upto_region 7 with (refine wpList_store_irow rfl 31 (.tmp 8) (.tmp 22) rfl (g := w7.heap.size) (t := 31) (k := .u8) (xs := List.replicate 64 0) (ys := nums D1) rfl rfl RC.out HI.out HL.out ?_)
    change Code.wp _ _ _ _ ((w7.alloc (.cells ((List.replicate 64 (0 : Int)).map (Value.int .u8)).toArray 31)).setRow w7.heap.size ((nums D1).map (Value.int .u8)).toArray)
    obtain ⟨w8, hw2⟩ : ∃ x, x = ((w7.alloc (.cells ((List.replicate 64 (0 : Int)).map (Value.int .u8)).toArray 31)).setRow w7.heap.size ((nums D1).map (Value.int .u8)).toArray) := ⟨_, rfl⟩
    rw [← hw2]
    have rC3 : IRow w8 w7.heap.size 31 .u8 (nums D1) := by rw [hw2]; exact RC2.out
    have bB3 := BB.out
    rw [← hw2] at bB3
    obtain ⟨G8, hG⟩ : ∃ g, g = w7.heap.size := ⟨_, rfl⟩
    rw [← hG] at rC3 ⊢
    have ra := RA.out.below bB3 RA.out.lt
    have be := BE.out.trans (bB3.mono (Nat.le_of_lt RA.out.lt))
    have rg6 := RG6.out.below bB3 RG6.out.lt
    have rg7 := RG7.out.below bB3 RG7.out.lt
    have RA := Lib.hid ra
    have BE := Lib.hid be
    have RG6 := Lib.hid rg6
    have RG7 := Lib.hid rg7
    have RG8 := Lib.hid rC3
    clear ra be rg6 rg7 rC3 bB3 hw2 hG RC RC2 BB HI HL bS
    try dsimp only [Act.put]
    have bx : Below w8.heap.size w8 w8.drew := ⟨rfl, rfl, rfl, Nat.le_refl _, fun _ _ => rfl⟩
    have BE := Lib.hid (BE.out.trans (bx.mono (Nat.le_of_lt RA.out.lt)))
    have RA := Lib.hid (RA.out.below bx RA.out.lt)
    have RG6 := Lib.hid (RG6.out.below bx RG6.out.lt)
    have RG7 := Lib.hid (RG7.out.below bx RG7.out.lt)
    have RG8 := Lib.hid (RG8.out.below bx RG8.out.lt)
    clear bx
    refine wp_region_still_tail 2 (by kernel_rfl) (by kernel_rfl) ?_
    simp only [List.take_succ_cons, List.take_zero, List.drop_succ_cons, List.drop_zero]
    change wpStill _ _ (w8.drew) _ _ _
    repeat still_step
    refine wpStill_nil ?_
    change wpList _ _ _ _ _ w8.drew
    obtain ⟨w9, hw9⟩ : ∃ x, x = w8.drew := ⟨_, rfl⟩
    rw [← hw9] at BE RA RG6 RG7 RG8 ⊢
    clear hw9
    have b1 := (irow_byt RG7.out HPO.out (by unfold maxLen; omega)).more (by have := RG6.out.lt; have := RG7.out.lt; omega : _ ≤ w9.heap.size)
    have b2 := (irow_byt RG8.out HD1.out (by unfold maxLen; omega)).more (by have := RG8.out.lt; omega : _ ≤ w9.heap.size)
    have bg := bag_two b1 b2
    have bW : Below w9.heap.size w9 (w9.alloc (.cells [Value.slice (some ⟨G7, 0, none⟩) 128 128, Value.slice (some ⟨G8, 0, none⟩) 64 64].toArray 22)) := (Below.refl _ w9).alloc (Nat.le_refl _) _
    have rb := RA.out.lt
    have be2 := BE.out.trans (bW.mono (Nat.le_of_lt rb))
    have c1 := S5.sum512_any _ _ _ (w9.alloc (.cells [Value.slice (some ⟨G7, 0, none⟩) 128 128, Value.slice (some ⟨G8, 0, none⟩) 64 64].toArray 22)) bg (by simp) (by rw [total_two, HPO.out, HD1.out]; omega) (HR.out.below (by rw [← HGA.out]; exact be2))
    rw [joined_two, ← HQ2.out] at c1
    have C1 := Lib.hid c1
    have BE := Lib.hid be2
    have RA := Lib.hid (RA.out.below bW RA.out.lt)
    clear b1 b2 bg bW rb be2 c1
    go_wp2_with fail
    refine C1.out.mono ?_
    rintro e w10 ⟨rfl, hb⟩
    have HI := Lib.hid (show (Tryd.prog.info? 31).map (·.size) = some (nums D2).length by rw [nums_length, HD2.out]; exact S5.info_64)
    have HL := Lib.hid (show (List.replicate 64 (0 : Int)).length = (nums D2).length by rw [nums_length, HD2.out]; rfl)
    have ra := RA.out.below hb RA.out.lt
    have be := BE.out.trans (hb.mono (Nat.le_of_lt RA.out.lt))
    have HFIN := Lib.hid (setRow_irow (ys := nums D2) ra)
    have HBF := Lib.hid (below_setRow be (Nat.le_refl _) ((nums D2).map (Value.int .u8)).toArray)
    have RA := Lib.hid ra
    clear ra be hb C1
    unfold digV
    go_wp2_with (refine wpList_store_irow rfl 31 (.tmp 4) (.tmp 26) rfl (g := GA) (t := 31) (k := .u8) (xs := List.replicate 64 0) (ys := nums D2) rfl rfl RA.out HI.out HL.out ?_)
    refine bodyPost_ret (v := digV D2) ?_ rfl ⟨by rw [HEND.out], by rw [← HGA.out]; exact HBF.out⟩
    obtain ⟨fr, hrw⟩ : ∃ fr, ((w10.setRow GA ((nums D2).map (Value.int .u8)).toArray)).heap[GA]? = some (.cells ((nums D2).map (Value.int .u8)).toArray 31 fr) := ⟨_, HFIN.out⟩
    exact results_cell_row Tryd.results19 _ _ GA 31 ((nums D2).map (Value.int .u8)).toArray fr _ rfl hrw Tryd.underlying31 rfl (by rw [List.size_toArray, List.length_map]; exact HI.out)
end Go.Proofs.YtpcopimbnbmkmaaDoor

/-
  The reference's Hmac512, walked. Conditions: sizes within the reach.
-/
namespace Go.Proofs.YtpcopimbnbmkmaaDoor
open Go.RowKit

/-- Of two owned rows in different blocks, one grows: the other stays, and they stay apart. -/
theorem pair_step {w w' : World} {D : Nat} {o : Obj} {v u v' : Value} {ys : List UInt8} (h8 : OwnB w D u ys) (ap : ∀ g, v.ownBlock = some g → u.ownBlock ≠ some g) (hg : (w.alloc o).grownBy w' v.ownBlock)
    (hat : v'.ownBlock = v.ownBlock ∨ v'.ownBlock = some (w.alloc o).heap.size) : OwnB w' D u ys ∧ (∀ g, v'.ownBlock = some g → u.ownBlock ≠ some g) := by
  refine ⟨World.ownsRow.kept (World.ownsRow.alloc h8 o) hg ?_, fun g hg' hu => ?_⟩
  · cases hu : u.ownBlock with
    | none => exact .inl rfl
    | some k => exact .inr fun e => ap k e.symm hu
  · rcases hat with e | e
    · exact ap g (e ▸ hg') hu
    · have h := (World.ownsRow.lt h8 g hu).2
      rw [hg'] at e
      injection e with e
      rw [e] at h
      simp at h
      omega
theorem pair_keep {w w' : World} {D : Nat} {v u : Value} {ys : List UInt8} (h8 : OwnB w D u ys) (ap : ∀ g, v.ownBlock = some g → u.ownBlock ≠ some g) (hg : w.grownBy w' v.ownBlock) : OwnB w' D u ys := by
  refine World.ownsRow.kept h8 hg ?_
  cases hu : u.ownBlock with
  | none => exact .inl rfl
  | some k => exact .inr fun e => ap k e.symm hu
theorem ownb_below {w w' : World} {D : Nat} {v : Value} {ys : List UInt8} (h : OwnB w D v ys) (hb : Below w.heap.size w w') : OwnB w' D v ys := by
  refine World.ownsRow.kept (row := none) h ⟨hb.os, hb.tape, hb.output, hb.size, fun k hk _ => hb.block k hk⟩ ?_
  cases v.ownBlock with
  | none => exact .inl rfl
  | some k => exact .inr (by simp)
theorem own_app {w : World} {base n : Nat} {v : Value} {xs ys : List UInt8} (h : w.ownsRow base 5 1 v (n + ys.length) (xs.map bv ++ ys.map bv)) (hn : n = xs.length) : OwnB w base v (xs ++ ys) := by
  unfold OwnB
  rw [List.length_append, List.map_append, ← hn]
  exact h
theorem xor_made (w : World) (t : TypeId) (y p : UInt8) (k : Int) (hk : k = (p.toNat : Int)) : Byt (w.alloc (.cells #[.int .u8 (bits .xor .u8 (y.toNat : Int) k)] t)) (w.heap.size + 1) (.slice (some ⟨w.heap.size, 0, none⟩) 1 1) [xorB y p] := by
  subst hk
  exact Byt.made w t [_] [xorB y p] (by rw [← xorB_nat]; rfl) (by unfold maxLen; simp)
theorem zeroed_le {K : List UInt8} (k : Nat) (hk : k = 128 - K.length) : K ++ List.replicate k 0 = zeroed K := by rw [hk]; rfl

set_option maxRecDepth 100000 in
set_option maxHeartbeats 12800000 in
theorem rhmac_any (B : Nat) (x y : Value) (key data : List UInt8) (w : World) (hx : Byt w B x key) (hy : Byt w B y data) (hB : B ≤ w.heap.size) (hk : key.length ≤ 90000) (hd : data.length ≤ 90000) :
    Calls Tryd.prog 20 #[x, y] w fun e w' => e = .returned (digV (hmac key data)) ∧ Below w.heap.size w w' := by
  obtain ⟨i0, hi, hz0, hz1, hz2⟩ := info_parts info_u8
  obtain ⟨A, c, hxf⟩ := hx.form
  subst hxf
  obtain ⟨A', c', hyf⟩ := hy.form
  subst hyf
  have z64 := S5.zero_64
  have rA := IRow.new w 31 .u8 (List.replicate 64 0)
  have bA : Below w.heap.size w (w.alloc (.cells ((List.replicate 64 (0 : Int)).map (Value.int .u8)).toArray 31)) := (Below.refl _ w).alloc (Nat.le_refl _) _
  have sA : (w.alloc (.cells ((List.replicate 64 (0 : Int)).map (Value.int .u8)).toArray 31)).heap.size = w.heap.size + 1 := by simp
  have HX := Lib.hid hx
  have HY := Lib.hid hy
  clear hx hy
  go_enter Tryd.func20, Tryd.ntmps20
  go_upto_region 1 with fail
  change Code.wp _ _ _ _ (w.alloc (.cells ((List.replicate 64 (0 : Int)).map (Value.int .u8)).toArray 31))
  obtain ⟨wA, hwA⟩ : ∃ x, x = (w.alloc (.cells ((List.replicate 64 (0 : Int)).map (Value.int .u8)).toArray 31)) := ⟨_, rfl⟩
  rw [← hwA] at rA bA sA ⊢
  obtain ⟨GA, hGA⟩ : ∃ g, g = w.heap.size := ⟨_, rfl⟩
  rw [← hGA] at rA bA sA ⊢
  have hBG : B ≤ GA := by omega
  have KT := Lib.hid (HX.out.below (bA.mono hBG))
  have RA := Lib.hid rA
  have BE := Lib.hid bA
  have HGA := Lib.hid hGA
  have hr := (HX.out.below (bA.mono hBG)).below ((Below.refl _ wA).alloc (by omega : B ≤ wA.heap.size) (.cells #[] 5))
  have hown : (wA.alloc (.cells #[] 5)).ownsRow (GA + 1) 5 1 (.slice (some ⟨wA.heap.size, 0, none⟩) 0 0) 0 [] := World.ownsRow_made wA #[] 0 (by omega) (by unfold maxLen; omega) rfl
  rw [sA] at hown
  have HR1 := Lib.hid hr
  have HO1 := Lib.hid hown
  clear hwA rA bA hGA HX hr hown
  try dsimp only [Act.put]
  go_upto_region 2 with (at_builtin; refine wpList_append_bytes rfl (.tmp 11) (.tmp 12) 22 rfl (GA + 1) 5 i0 slice_u8 hi hz0 hz1 hz2 _ 0 [] rfl HO1.out B _ key rfl HR1.out (by omega) (by have := RA.out.lt; simp; omega) ?_; intro v1 w1 hown1 hg1 hat1; obtain ⟨A1, c1, rfl⟩ := own_form hown1)
  rw [Nat.zero_add] at *
  have hbD : Below (GA + 1) wA w1 := ((Below.refl (GA + 1) wA).alloc (by omega) _).grown hg1 (by simp; omega) (fun k hk => by cases hk; exact Nat.le_refl _)
  have how1 : OwnB w1 (GA + 1) (.slice A1 key.length c1) key := by unfold OwnB; simpa using hown1
  have ra := RA.out.below hbD (by omega)
  have be := BE.out.trans (hbD.mono (by omega))
  have H1 := Lib.hid how1
  have RA := Lib.hid ra
  have BE := Lib.hid be
  clear hbD how1 ra be hown1 hg1 hat1 HR1 HO1 sA KT
  go_upto_if 16 with fail
  go_cut [5] (fun v wx => OwnB wx (GA + 1) v (keyOf key) ∧ IRow wx GA 31 .u8 (List.replicate 64 0) ∧ Below GA w wx)
  case first =>
    by_cases hk : 128 < key.length
    · have hki : (128 : Int) < (key.length : Int) := by omega
      obtain ⟨D, hD⟩ : ∃ D, D = S5.sha512 key := ⟨_, rfl⟩
      have hko : keyOf key = D := by unfold keyOf; rw [if_pos hk, hD]
      have HD := Lib.hid (show D.length = 64 by rw [hD, S5.sha512_length])
      have c1 := S5.rsum256_any _ _ key w1 H1.out.byt (Nat.le_refl _) (by omega)
      rw [← hD] at c1
      have C1 := Lib.hid c1
      have HKO := Lib.hid hko
      clear c1 hD hko
      go_wp2_with fail
      refine C1.out.mono ?_
      rintro e w2 ⟨rfl, hb⟩
      have HI := Lib.hid (show (Tryd.prog.info? 31).map (·.size) = some (nums D).length by rw [nums_length, HD.out]; exact S5.info_64)
      have HL := Lib.hid (show (List.replicate 64 (0 : Int)).length = (nums D).length by rw [nums_length, HD.out]; rfl)
      have rC := IRow.new w2 31 .u8 (List.replicate 64 0)
      have rC2 := setRow_irow (ys := nums D) rC
      have bC : Below w2.heap.size w2 ((w2.alloc (.cells ((List.replicate 64 (0 : Int)).map (Value.int .u8)).toArray 31)).setRow w2.heap.size ((nums D).map (Value.int .u8)).toArray) := below_setRow ((Below.refl _ w2).alloc (Nat.le_refl _) _) (Nat.le_refl _) _
      have bS := hb.size
      have bB := hb.trans (bC.mono bS)
      have RC := Lib.hid rC
      have RC2 := Lib.hid rC2
      have BB := Lib.hid bB
      clear hb rC rC2 bC bB C1
      unfold digV
      go_upto_region 4 with (refine wpList_store_irow rfl 31 (.tmp 6) (.tmp 18) rfl (g := w2.heap.size) (t := 31) (k := .u8) (xs := List.replicate 64 0) (ys := nums D) rfl rfl RC.out HI.out HL.out ?_)
      change Code.wp _ _ _ _ ((w2.alloc (.cells ((List.replicate 64 (0 : Int)).map (Value.int .u8)).toArray 31)).setRow w2.heap.size ((nums D).map (Value.int .u8)).toArray)
      obtain ⟨w3, hw2⟩ : ∃ x, x = ((w2.alloc (.cells ((List.replicate 64 (0 : Int)).map (Value.int .u8)).toArray 31)).setRow w2.heap.size ((nums D).map (Value.int .u8)).toArray) := ⟨_, rfl⟩
      rw [← hw2]
      have rC3 : IRow w3 w2.heap.size 31 .u8 (nums D) := by rw [hw2]; exact RC2.out
      have bB3 := BB.out
      rw [← hw2] at bB3
      obtain ⟨G6, hG⟩ : ∃ g, g = w2.heap.size := ⟨_, rfl⟩
      rw [← hG] at rC3 ⊢
      have ra := RA.out.below bB3 RA.out.lt
      have be := BE.out.trans (bB3.mono (Nat.le_of_lt RA.out.lt))
      have RA := Lib.hid ra
      have BE := Lib.hid be
      have RG6 := Lib.hid rC3
      clear ra be rC3 bB3 hw2 hG RC RC2 BB HI HL bS
      try dsimp only [Act.put]
      have hr := (irow_byt RG6.out HD.out (by unfold maxLen; omega)).below ((Below.refl _ w3).alloc (by have := RG6.out.lt; omega) (.cells #[] 5))
      have hown : (w3.alloc (.cells #[] 5)).ownsRow (GA + 1) 5 1 (.slice (some ⟨w3.heap.size, 0, none⟩) 0 0) 0 [] := World.ownsRow_made w3 #[] 0 (by have := RA.out.lt; omega) (by unfold maxLen; omega) rfl
      have HR1 := Lib.hid hr
      have HO1 := Lib.hid hown
      clear hr hown
      go_wp2_with (at_builtin; refine wpList_append_bytes rfl (.tmp 19) (.tmp 20) 22 rfl (GA + 1) 5 i0 slice_u8 hi hz0 hz1 hz2 _ 0 [] rfl HO1.out (G6 + 1) _ D rfl HR1.out (by have := HD.out; omega) (by have := RA.out.lt; simp; omega) ?_; intro v4 w4 hown4 hg4 hat4; obtain ⟨A4, c4, rfl⟩ := own_form hown4)
      go_meet
      have hbD : Below (GA + 1) w3 w4 := ((Below.refl (GA + 1) w3).alloc (by have := RA.out.lt; omega) _).grown hg4 (by have := RA.out.lt; simp; omega) (fun k hk => by cases hk; exact RA.out.lt)
      rw [HKO.out]
      refine ⟨?_, RA.out.below hbD (by omega), BE.out.trans (hbD.mono (by omega))⟩
      unfold OwnB
      simpa using hown4
    · have hki : ¬ (128 : Int) < (key.length : Int) := by omega
      have HKO := Lib.hid (show keyOf key = key by unfold keyOf; rw [if_neg hk])
      go_wp2_with fail
      go_meet
      rw [HKO.out]
      exact ⟨H1.out, RA.out, BE.out⟩
  case rest =>
    obtain ⟨hown, ra, be⟩ := hcut
    clear RA BE H1
    obtain ⟨K, hK⟩ : ∃ K, K = keyOf key := ⟨_, rfl⟩
    have hKl := keyOf_length key
    rw [← hK] at hown hKl
    obtain ⟨A2, c2, rfl⟩ := hown.form
    have HKK := Lib.hid hK
    have HO := Lib.hid hown
    have RA := Lib.hid ra
    have BE := Lib.hid be
    clear hown ra be hK
    go_upto_block 0 with fail
    go_cut [5] (fun v wx => OwnB wx (GA + 1) v (zeroed K) ∧ IRow wx GA 31 .u8 (List.replicate 64 0) ∧ Below GA w wx)
    case first =>
      go_wp2_with fail
      go_loopw [5] (fun v wr => ∃ k : Nat, k ≤ 128 - K.length ∧ OwnB wr (GA + 1) v (K ++ List.replicate k 0) ∧ IRow wr GA 31 .u8 (List.replicate 64 0) ∧ Below GA w wr) (fun v _ => 129 - slen v)
      case atStart => exact ⟨0, by omega, by rw [List.replicate_zero, List.append_nil]; exact HO.out, RA.out, BE.out⟩
      case round =>
        clear RA BE HO
        obtain ⟨k, hk, hown, ra, be⟩ := hrel
        obtain ⟨ys, hys⟩ : ∃ ys, ys = K ++ List.replicate k 0 := ⟨_, rfl⟩
        have hyl : ys.length = K.length + k := by rw [hys]; simp
        rw [← hys] at hown
        obtain ⟨A3, c3, rfl⟩ := hown.form
        have HYS := Lib.hid hys
        have HYL := Lib.hid hyl
        have RA := Lib.hid ra
        have BE := Lib.hid be
        clear hys ra be
        by_cases hlt : k < 128 - K.length
        · have hli : (ys.length : Int) < 128 := by omega
          have hmade : Byt (wr.alloc (.cells #[.int .u8 0] 5)) (wr.heap.size + 1) (.slice (some ⟨wr.heap.size, 0, none⟩) 1 1) [0] := Byt.made wr _ [_] [0] rfl (by unfold maxLen; simp)
          have HM := Lib.hid hmade
          have HW := Lib.hid (show wr.ownsRow (GA + 1) 5 1 (.slice A3 ys.length c3) ys.length (ys.map bv) from hown)
          clear hmade hown hyl
          go_wp2_with (at_builtin; refine wpList_append_bytes rfl (.tmp 25) (.tmp 26) 22 rfl (GA + 1) 5 i0 slice_u8 hi hz0 hz1 hz2 _ ys.length (ys.map bv) rfl (HW.out.alloc _) (wr.heap.size + 1) _ [0] rfl HM.out (by have := HYL.out; simp; omega) (by have := RA.out.lt; simp; omega) ?_; intro v5 w5 hown5 hg5 hat5; obtain ⟨A5, c5, rfl⟩ := own_form hown5)
          have hbD : Below (GA + 1) wr w5 := ((Below.refl (GA + 1) wr).alloc (by have := RA.out.lt; omega) _).grown hg5 (by have := RA.out.lt; simp; omega) (fun j hj => (HW.out.lt j hj).1)
          refine ⟨⟨k + 1, by omega, ?_, RA.out.below hbD (by omega), BE.out.trans (hbD.mono (by omega))⟩, by have := HYL.out; simp only [slen]; omega⟩
          have e : K ++ List.replicate (k + 1) 0 = ys ++ [(0 : UInt8)] := by rw [HYS.out, List.replicate_succ', ← List.append_assoc]
          rw [e]
          exact own_app hown5 rfl
        · have hli : ¬ (ys.length : Int) < 128 := by omega
          have HZ := Lib.hid (show ys = zeroed K by rw [HYS.out]; exact zeroed_le k (by omega))
          have HO := Lib.hid hown
          clear hown hyl
          go_wp2_with fail
          go_meet
          rw [← HZ.out]
          exact ⟨HO.out, RA.out, BE.out⟩
    case rest =>
      clear RA BE HO
      obtain ⟨hown, ra, be⟩ := hcut
      have hzl := zeroed_length hKl
      obtain ⟨G5, c5, rfl, h5lo, h5hi, _⟩ := hown.block (by omega)
      obtain ⟨PI, hPI⟩ : ∃ l, l = padK K 54 := ⟨_, rfl⟩
      obtain ⟨PO, hPO⟩ : ∃ l, l = padK K 92 := ⟨_, rfl⟩
      have HPI := Lib.hid (show PI.length = 128 by rw [hPI, padK_length _ hKl])
      have HPO := Lib.hid (show PO.length = 128 by rw [hPO, padK_length _ hKl])
      obtain ⟨D1, hD1⟩ : ∃ l, l = S5.sha512 (PI ++ data) := ⟨_, rfl⟩
      obtain ⟨D2, hD2⟩ : ∃ l, l = S5.sha512 (PO ++ D1) := ⟨_, rfl⟩
      have HD1 := Lib.hid (show D1.length = 64 by rw [hD1, S5.sha512_length])
      have HD2 := Lib.hid (show D2.length = 64 by rw [hD2, S5.sha512_length])
      have HEND := Lib.hid (show hmac key data = D2 by unfold hmac; rw [hD2, hD1, hPO, hPI, HKK.out])
      obtain ⟨wZ, hwZ⟩ : ∃ z, z = wc := ⟨_, rfl⟩
      rw [← hwZ] at hown ra be h5hi ⊢
      clear hwZ
      obtain ⟨DD, hDD⟩ : ∃ d, d = wZ.heap.size := ⟨_, rfl⟩
      rw [← hDD] at h5hi
      have HO := Lib.hid hown
      have RA := Lib.hid ra
      have BE := Lib.hid be
      have HQ1 := Lib.hid hD1
      have HQ2 := Lib.hid hD2
      have HQI := Lib.hid hPI
      have HQO := Lib.hid hPO
      have HDD := Lib.hid hDD
      have HZL := Lib.hid hzl
      rw [hzl]
      clear hown ra be hPI hPO hD1 hD2 hDD hzl
      go_upto_block 2 with fail
      go_cut [7, 8] (fun v7 v8 wx => OwnB wx DD v7 PI ∧ OwnB wx DD v8 PO ∧ (∀ g, v7.ownBlock = some g → v8.ownBlock ≠ some g) ∧ Below DD wZ wx)
      case first =>
        go_wp2_with fail
        go_loopw [7, 8, 9] (fun v7 v8 s wr => ∃ i : Nat, i ≤ 128 ∧ s = .int .i64 (i : Int) ∧ OwnB wr DD v7 (PI.take i) ∧ OwnB wr DD v8 (PO.take i) ∧ (∀ g, v7.ownBlock = some g → v8.ownBlock ≠ some g) ∧ Below DD wZ wr) (fun _ _ s _ => 128 - (intOf s).toNat)
        case atStart => exact ⟨0, by omega, rfl, OwnB.nil _ _, OwnB.nil _ _, (by intro g h; cases h), by rw [HDD.out]; exact Below.refl _ _⟩
        case round =>
          obtain ⟨i, hile, rfl, h7, h8, hap, hbel⟩ := hrel
          have hsz : DD ≤ wr.heap.size := by have := hbel.size; have := HDD.out; omega
          have hl7 : (PI.take i).length = i := by rw [List.length_take, HPI.out]; omega
          have hl8 : (PO.take i).length = i := by rw [List.length_take, HPO.out]; omega
          obtain ⟨p7, hp7⟩ : ∃ l, l = PI.take i := ⟨_, rfl⟩
          obtain ⟨p8, hp8⟩ : ∃ l, l = PO.take i := ⟨_, rfl⟩
          rw [← hp7] at h7 hl7
          rw [← hp8] at h8 hl8
          have HL7 := Lib.hid hl7
          have HL8 := Lib.hid hl8
          clear hl7 hl8
          obtain ⟨A7, c7, rfl⟩ := h7.form
          obtain ⟨A8, c8, rfl⟩ := h8.form
          by_cases h128 : i < 128
          · obtain ⟨y, hy⟩ : ∃ y, (zeroed K)[i]? = some y := ⟨_, List.getElem?_eq_getElem (by rw [HZL.out]; exact h128)⟩
            have n7 : PI.take (i + 1) = p7 ++ [xorB y 54] := by rw [List.take_add_one, ← hp7, HQI.out]; unfold padK; rw [List.getElem?_map, hy]; rfl
            have n8 : PO.take (i + 1) = p8 ++ [xorB y 92] := by rw [List.take_add_one, ← hp8, HQO.out]; unfold padK; rw [List.getElem?_map, hy]; rfl
            have k0 : wr.cell? ⟨G5, i, none⟩ = some (.int .u8 (y.toNat : Int)) := (hbel.cell (p := ⟨G5, i, none⟩) h5hi).trans (HO.out.cell hy)
            have bi : (i : Int) < 128 := by omega
            have HM := Lib.hid (xor_made wr 5 y 54 54 rfl)
            have H7 := Lib.hid (show wr.ownsRow DD 5 1 (.slice A7 p7.length c7) p7.length (p7.map bv) from h7)
            have H8 := Lib.hid h8
            have HAP := Lib.hid hap
            have HBEL := Lib.hid hbel
            have N7 := Lib.hid n7
            have N8 := Lib.hid n8
            have HYY := Lib.hid hy
            clear h7 h8 hap hbel n7 n8 hy hp7 hp8
            go_upto_region 12 with (at_builtin; refine wpList_append_bytes rfl (.tmp 32) (.tmp 38) 22 rfl DD 5 i0 slice_u8 hi hz0 hz1 hz2 _ p7.length (p7.map bv) rfl (H7.out.alloc _) (wr.heap.size + 1) _ [xorB y 54] rfl HM.out (by have := HL7.out; simp; omega) (by simp; omega) ?_; intro v9 w9 hown9 hg9 hat9; obtain ⟨A9, c9, rfl⟩ := own_form hown9)
            have hb9 : Below DD wZ w9 := (HBEL.out.alloc hsz _).grown hg9 (by simp; omega) (fun j hj => (H7.out.lt j hj).1)
            obtain ⟨h8, hap⟩ := pair_step H8.out HAP.out hg9 hat9
            have o9 := own_app hown9 rfl
            rw [← N7.out] at o9
            have k1 : w9.cell? ⟨G5, i, none⟩ = some (.int .u8 (y.toNat : Int)) := (hb9.cell (p := ⟨G5, i, none⟩) h5hi).trans (HO.out.cell HYY.out)
            have hsz9 : DD ≤ w9.heap.size := by have := hb9.size; have := HDD.out; omega
            have HM := Lib.hid (xor_made w9 5 y 92 92 rfl)
            have H8 := Lib.hid (show w9.ownsRow DD 5 1 (.slice A8 p8.length c8) p8.length (p8.map bv) from h8)
            have O9 := Lib.hid o9
            have HAP := Lib.hid (show ∀ g, (Value.slice A8 p8.length c8).ownBlock = some g → (Value.slice A9 (p7.length + [xorB y 54].length) c9).ownBlock ≠ some g from fun g h e => hap g e h)
            have HB9 := Lib.hid hb9
            clear h8 hap o9 hown9 hg9 hat9 hb9 k0 H7
            go_wp2_with (at_builtin; refine wpList_append_bytes rfl (.tmp 40) (.tmp 46) 22 rfl DD 5 i0 slice_u8 hi hz0 hz1 hz2 _ p8.length (p8.map bv) rfl (H8.out.alloc _) (w9.heap.size + 1) _ [xorB y 92] rfl HM.out (by have := HL8.out; simp; omega) (by simp; omega) ?_; intro v10 w10 hown10 hg10 hat10; obtain ⟨A10, c10, rfl⟩ := own_form hown10)
            have hb10 : Below DD wZ w10 := (HB9.out.alloc hsz9 _).grown hg10 (by simp; omega) (fun j hj => (H8.out.lt j hj).1)
            obtain ⟨h9, hap⟩ := pair_step O9.out HAP.out hg10 hat10
            have o10 := own_app hown10 rfl
            rw [← N8.out] at o10
            exact ⟨⟨i + 1, by omega, by go_num, h9, o10, fun g h e => hap g e h, hb10⟩, by simp [intOf]; omega⟩
          · obtain rfl : i = 128 := by omega
            have e128 : ((128 : Nat) : Int) = 128 := rfl
            rw [e128]
            have e7 : p7 = PI := by rw [hp7]; exact List.take_of_length_le (by rw [HPI.out]; omega)
            have e8 : p8 = PO := by rw [hp8]; exact List.take_of_length_le (by rw [HPO.out]; omega)
            clear hp7 hp8
            subst e7 e8
            have H7 := Lib.hid h7
            have H8 := Lib.hid h8
            have HAP := Lib.hid hap
            have HBEL := Lib.hid hbel
            clear h7 h8 hap hbel e128
            go_wp2_with fail
            go_meet
            exact ⟨H7.out, H8.out, HAP.out, HBEL.out⟩
      case rest =>
        obtain ⟨h7, h8, hap, be2⟩ := hcut
        obtain ⟨A7, c7, rfl⟩ := h7.form
        obtain ⟨A8, c8, rfl⟩ := h8.form
        have hGD : GA < DD := by have := RA.out.lt; have := HDD.out; omega
        have hsz : DD ≤ wc.heap.size := by have := be2.size; have := HDD.out; omega
        have ra := RA.out.below be2 hGD
        have be := BE.out.trans (be2.mono (by omega))
        have DT := Lib.hid (HY.out.below (be.mono hBG))
        have H7 := Lib.hid (show wc.ownsRow DD 5 1 (.slice A7 PI.length c7) PI.length (PI.map bv) from h7)
        have RA := Lib.hid ra
        have BE := Lib.hid be
        have H8 := Lib.hid h8
        have HAP := Lib.hid hap
        clear ra be h7 h8 hap HO HY be2
        have hBs : B ≤ wc.heap.size := by omega
        go_wp2_with (at_builtin; refine wpList_append_bytes rfl (.tmp 48) (.tmp 49) 22 rfl DD 5 i0 slice_u8 hi hz0 hz1 hz2 _ PI.length (PI.map bv) rfl H7.out B _ data rfl DT.out (by have := HPI.out; omega) hsz ?_; intro v1 w1 hown1 hg1 hat1; obtain ⟨A1, c1, rfl⟩ := own_form hown1)
        have o1 := own_app hown1 rfl
        have ov := pair_keep H8.out HAP.out hg1
        have hbD : Below DD wc w1 := (Below.refl DD wc).grown hg1 hsz (fun j hj => (H7.out.lt j hj).1)
        have ra := RA.out.below hbD hGD
        have be := BE.out.trans (hbD.mono (by omega))
        have hsz1 : DD ≤ w1.heap.size := by have := hbD.size; omega
        have c1 := S5.rsum256_any _ _ (PI ++ data) w1 o1.byt (Nat.le_refl _) (by rw [List.length_append, HPI.out]; omega)
        rw [← HQ1.out] at c1
        have C1 := Lib.hid c1
        have RA := Lib.hid ra
        have BE := Lib.hid be
        have OV := Lib.hid ov
        clear c1 ra be ov o1 hown1 hg1 hat1 hbD H7 H8 HAP DT
        refine C1.out.mono ?_
        rintro e w2 ⟨rfl, hb⟩
        have HI := Lib.hid (show (Tryd.prog.info? 31).map (·.size) = some (nums D1).length by rw [nums_length, HD1.out]; exact S5.info_64)
        have HL := Lib.hid (show (List.replicate 64 (0 : Int)).length = (nums D1).length by rw [nums_length, HD1.out]; rfl)
        have rC := IRow.new w2 31 .u8 (List.replicate 64 0)
        have rC2 := setRow_irow (ys := nums D1) rC
        have bC : Below w2.heap.size w2 ((w2.alloc (.cells ((List.replicate 64 (0 : Int)).map (Value.int .u8)).toArray 31)).setRow w2.heap.size ((nums D1).map (Value.int .u8)).toArray) := below_setRow ((Below.refl _ w2).alloc (Nat.le_refl _) _) (Nat.le_refl _) _
        have bS := hb.size
        have bB := hb.trans (bC.mono bS)
        have RC := Lib.hid rC
        have RC2 := Lib.hid rC2
        have BB := Lib.hid bB
        clear hb rC rC2 bC bB C1
        unfold digV
        go_upto_region 14 with (refine wpList_store_irow rfl 31 (.tmp 10) (.tmp 51) rfl (g := w2.heap.size) (t := 31) (k := .u8) (xs := List.replicate 64 0) (ys := nums D1) rfl rfl RC.out HI.out HL.out ?_)
        change Code.wp _ _ _ _ ((w2.alloc (.cells ((List.replicate 64 (0 : Int)).map (Value.int .u8)).toArray 31)).setRow w2.heap.size ((nums D1).map (Value.int .u8)).toArray)
        obtain ⟨w3, hw2⟩ : ∃ x, x = ((w2.alloc (.cells ((List.replicate 64 (0 : Int)).map (Value.int .u8)).toArray 31)).setRow w2.heap.size ((nums D1).map (Value.int .u8)).toArray) := ⟨_, rfl⟩
        rw [← hw2]
        have rC3 : IRow w3 w2.heap.size 31 .u8 (nums D1) := by rw [hw2]; exact RC2.out
        have bB3 := BB.out
        rw [← hw2] at bB3
        obtain ⟨G10, hG⟩ : ∃ g, g = w2.heap.size := ⟨_, rfl⟩
        rw [← hG] at rC3 ⊢
        have ra := RA.out.below bB3 RA.out.lt
        have be := BE.out.trans (bB3.mono (Nat.le_of_lt RA.out.lt))
        have ov := ownb_below OV.out bB3
        have RA := Lib.hid ra
        have BE := Lib.hid be
        have OV := Lib.hid ov
        have RG10 := Lib.hid rC3
        clear ra be ov rC3 bB3 hw2 hG RC RC2 BB HI HL bS
        try dsimp only [Act.put]
        have hr := irow_byt RG10.out HD1.out (by unfold maxLen; omega)
        have hsz3 : DD ≤ w3.heap.size := by obtain ⟨_, _, _, h1, h2, _⟩ := OV.out.block (by rw [HPO.out]; omega); omega
        have HR1 := Lib.hid hr
        have HO1 := Lib.hid (show w3.ownsRow DD 5 1 (.slice A8 PO.length c8) PO.length (PO.map bv) from OV.out)
        clear hr
        go_wp2_with (at_builtin; refine wpList_append_bytes rfl (.tmp 52) (.tmp 53) 22 rfl DD 5 i0 slice_u8 hi hz0 hz1 hz2 _ PO.length (PO.map bv) rfl HO1.out (G10 + 1) _ D1 rfl HR1.out (by have := HPO.out; have := HD1.out; omega) hsz3 ?_; intro v4 w4 hown4 hg4 hat4; obtain ⟨A4, c4, rfl⟩ := own_form hown4)
        have o4 := own_app hown4 rfl
        have hbD : Below DD w3 w4 := (Below.refl DD w3).grown hg4 hsz3 (fun j hj => (HO1.out.lt j hj).1)
        have ra := RA.out.below hbD hGD
        have be := BE.out.trans (hbD.mono (by omega))
        have c1 := S5.rsum256_any _ _ (PO ++ D1) w4 o4.byt (Nat.le_refl _) (by rw [List.length_append, HPO.out, HD1.out]; omega)
        rw [← HQ2.out] at c1
        refine c1.mono ?_
        rintro e w10 ⟨rfl, hb⟩
        have HI := Lib.hid (show (Tryd.prog.info? 31).map (·.size) = some (nums D2).length by rw [nums_length, HD2.out]; exact S5.info_64)
        have HL := Lib.hid (show (List.replicate 64 (0 : Int)).length = (nums D2).length by rw [nums_length, HD2.out]; rfl)
        have ra2 := ra.below hb ra.lt
        have be2 := be.trans (hb.mono (Nat.le_of_lt ra.lt))
        have HFIN := Lib.hid (setRow_irow (ys := nums D2) ra2)
        have HBF := Lib.hid (below_setRow be2 (Nat.le_refl _) ((nums D2).map (Value.int .u8)).toArray)
        have RA := Lib.hid ra2
        clear ra be ra2 be2 hb c1 hbD o4 hown4 hg4 hat4
        unfold digV
        go_wp2_with (refine wpList_store_irow rfl 31 (.tmp 4) (.tmp 55) rfl (g := GA) (t := 31) (k := .u8) (xs := List.replicate 64 0) (ys := nums D2) rfl rfl RA.out HI.out HL.out ?_)
        refine bodyPost_ret (v := digV D2) ?_ rfl ⟨by rw [HEND.out], by rw [← HGA.out]; exact HBF.out⟩
        obtain ⟨fr, hrw⟩ : ∃ fr, ((w10.setRow GA ((nums D2).map (Value.int .u8)).toArray)).heap[GA]? = some (.cells ((nums D2).map (Value.int .u8)).toArray 31 fr) := ⟨_, HFIN.out⟩
        exact results_cell_row Tryd.results20 _ _ GA 31 ((nums D2).map (Value.int .u8)).toArray fr _ rfl hrw Tryd.underlying31 rfl (by rw [List.size_toArray, List.length_map]; exact HI.out)
end Go.Proofs.YtpcopimbnbmkmaaDoor

/-
  The law on digests of two kinds, and of a key. Conditions: the roots and the tables are laid.
-/
namespace Go.Proofs.YtpcopimbnbmkmaaDoor
open Go.RowKit

set_option maxRecDepth 100000 in
set_option maxHeartbeats 12800000 in
theorem both_law (B : Nat) (x z : Value) (xs zs : List UInt8) (w : World) (hr : Roots w) (ht : Rm.TabsIs w) (hx : Byt w B x xs) (hz : Byt w B z zs) (hB : B ≤ w.heap.size) :
    Calls Tryd.prog 4 #[x, z] w fun e w' => e = .returned (.bool true) ∧ Below w.heap.size w w' := by
  obtain ⟨A, c, hxf⟩ := hx.form
  subst hxf
  obtain ⟨Az, cz, hzf⟩ := hz.form
  subst hzf
  have HX := Lib.hid hx
  have HZ := Lib.hid hz
  have HA := Lib.hid (hawake_any w hr)
  have HR := Lib.hid hr
  have HT := Lib.hid ht
  clear hx hr ht hz
  go_enter Tryd.func4, Tryd.ntmps4
  go_wp2_with fail
  refine HA.out.mono ?_
  rintro e w1 ⟨rfl, hb1⟩
  have hs1 := hb1.size
  have Z1 := Lib.hid (hshort_any B _ xs w1 (HX.out.below (hb1.mono hB)))
  have Z2 := Lib.hid (hshort_any B _ zs w1 (HZ.out.below (hb1.mono hB)))
  have HB1 := Lib.hid hb1
  clear hb1
  go_wp2_with fail
  refine Z1.out.mono ?_
  rintro e w1' ⟨⟨y, rfl, hy⟩, rfl⟩
  obtain ⟨A1, c1, rfl⟩ := hy.form
  obtain ⟨ks, hks⟩ : ∃ ks, ks = xs.take 600 := ⟨_, rfl⟩
  have hkl : ks.length ≤ 600 := by rw [hks, List.length_take]; omega
  rw [← hks] at hy ⊢
  have HK := Lib.hid hy
  clear hy hks Z1 HX HA
  go_wp2_with fail
  refine Z2.out.mono ?_
  rintro e w1' ⟨⟨y, rfl, hy⟩, rfl⟩
  obtain ⟨A2, c2, rfl⟩ := hy.form
  obtain ⟨ys, hys⟩ : ∃ ys, ys = zs.take 600 := ⟨_, rfl⟩
  have hyl : ys.length ≤ 600 := by rw [hys, List.length_take]; omega
  rw [← hys] at hy ⊢
  have HY := Lib.hid hy
  have SP := Lib.hid (spare_any B _ ys w1 hy (by omega) (by omega))
  clear hy hys Z2 HZ
  go_wp2_with fail
  refine SP.out.mono ?_
  rintro e w2 ⟨rfl, hrow, hb2⟩
  have hs2 := hb2.size
  have hGD : w1.heap.size < w2.heap.size := hrow.lt
  have ROWD := Lib.hid hrow
  have C2 := Lib.hid (HB1.out.trans (hb2.mono hs1))
  have YD2 := Lib.hid (HY.out.below (hb2.mono (by omega)))
  have yk2 := HK.out.below (hb2.mono (by omega : B ≤ w1.heap.size))
  have YK2 := Lib.hid yk2
  have SP2 := Lib.hid (spare_any B _ ks w2 yk2 (by omega) (by omega))
  clear hrow hb2 SP yk2 HY HK
  go_wp2_with fail
  refine SP2.out.mono ?_
  rintro e w3 ⟨rfl, hrow, hb3⟩
  have hs3 := hb3.size
  have hGK : w2.heap.size < w3.heap.size := hrow.lt
  have rowd : Row w3 w1.heap.size (tinted ys) := ROWD.out.turns (Turns.of_below hb3 (S := fun _ => False)) (fun h => h)
  have hin := hrow.byt (n := ks.length) (c := ks.length + 9) (by rw [tinted_length]; omega) (by omega) (by unfold maxLen; omega)
  have htk : (tinted ks).take ks.length = ks := by unfold tinted; rw [List.take_left']; rfl
  rw [htk] at hin
  have hid := rowd.byt (n := ys.length) (c := ys.length + 9) (by rw [tinted_length]; omega) (by omega) (by unfold maxLen; omega)
  have htd : (tinted ys).take ys.length = ys := by unfold tinted; rw [List.take_left']; rfl
  rw [htd] at hid
  have ID3 := Lib.hid (hid.more (by omega : _ ≤ w3.heap.size))
  have IK3 := Lib.hid (hin.more (by omega : _ ≤ w3.heap.size))
  have HROWK := Lib.hid hrow
  have HROWD := Lib.hid rowd
  have C3 := Lib.hid (C2.out.trans (hb3.mono (by omega)))
  have U3 := Lib.hid (Below.refl w3.heap.size w3)
  have YD3 := Lib.hid (YD2.out.below (hb3.mono (by omega)))
  have YK3 := Lib.hid (YK2.out.below (hb3.mono (by omega)))
  have Z3 := Lib.hid (Nat.le_refl w3.heap.size)
  obtain ⟨D1, hD1⟩ : ∃ D, D = sha256 (sha256 ys) := ⟨_, rfl⟩
  obtain ⟨D2, hD2⟩ : ∃ D, D = Rm.ripemd (sha256 ys) := ⟨_, rfl⟩
  obtain ⟨D3, hD3⟩ : ∃ D, D = hmac ks ys := ⟨_, rfl⟩
  have l1 : D1.length = 32 := by rw [hD1, sha256_length]
  have l2 : D2.length = 20 := by rw [hD2, Rm.ripemd_length]
  have l3 : D3.length = 64 := by rw [hD3]; unfold hmac; rw [S5.sha512_length]
  have heq1 := fun W => eq_32 D1 D1 l1 l1 W
  have heq2 := fun W => eq_20 D2 D2 l2 l2 W
  have heq3 := fun W => eq_64 D3 D3 l3 l3 W
  simp only [beq_self_eq_true] at heq1 heq2 heq3
  obtain ⟨V1, hV1⟩ : ∃ V : Array Value, Value.agg V = digV D1 := ⟨_, rfl⟩
  obtain ⟨V2, hV2⟩ : ∃ V : Array Value, Value.agg V = digV D2 := ⟨_, rfl⟩
  obtain ⟨V3, hV3⟩ : ∃ V : Array Value, Value.agg V = digV D3 := ⟨_, rfl⟩
  simp only [← hV1] at heq1
  simp only [← hV2] at heq2
  simp only [← hV3] at heq3
  have HV1 := Lib.hid (show digV (sha256 (sha256 ys)) = .agg V1 by rw [hV1, hD1])
  have HV2 := Lib.hid (show digV (Rm.ripemd (sha256 ys)) = .agg V2 by rw [hV2, hD2])
  have HV3 := Lib.hid (show digV (hmac ks ys) = .agg V3 by rw [hV3, hD3])
  clear hrow rowd hin hid htk htd hb3 SP2 hD1 hD2 hD3 hV1 hV2 hV3 l1 l2 l3 YD2 YK2 C2 ROWD
  have P3 := double_any _ _ ys w3 ID3.out Z3.out (by omega) (HR.out.below C3.out)
  rw [HV1.out] at P3
  have HP3 := Lib.hid P3
  clear P3
  go_wp2_with fail
  refine HP3.out.mono ?_
  rintro e w4 ⟨rfl, hb4⟩
  have hs4 := hb4.size
  have C4 := Lib.hid (C3.out.trans (hb4.mono C3.out.size))
  have U4 := Lib.hid (U3.out.trans (hb4.mono U3.out.size))
  have Z4 := Lib.hid (Nat.le_trans Z3.out hs4)
  have ID4 := Lib.hid (ID3.out.below (hb4.mono (by have := Z3.out; omega)))
  have IK4 := Lib.hid (IK3.out.below (hb4.mono (by have := Z3.out; omega)))
  have YD4 := Lib.hid (YD3.out.below (hb4.mono (by have := Z3.out; omega)))
  have YK4 := Lib.hid (YK3.out.below (hb4.mono (by have := Z3.out; omega)))
  clear hb4 HP3 C3 U3 Z3 ID3 IK3 YD3 YK3
  have P4 := rdouble_any B _ ys w4 YD4.out (by omega) (by omega)
  rw [HV1.out] at P4
  have HP4 := Lib.hid P4
  clear P4
  go_wp2_with fail
  refine HP4.out.mono ?_
  rintro e w5 ⟨rfl, hb5⟩
  have hs5 := hb5.size
  have C5 := Lib.hid (C4.out.trans (hb5.mono C4.out.size))
  have U5 := Lib.hid (U4.out.trans (hb5.mono U4.out.size))
  have Z5 := Lib.hid (Nat.le_trans Z4.out hs5)
  have ID5 := Lib.hid (ID4.out.below (hb5.mono (by have := Z4.out; omega)))
  have IK5 := Lib.hid (IK4.out.below (hb5.mono (by have := Z4.out; omega)))
  have YD5 := Lib.hid (YD4.out.below (hb5.mono (by have := Z4.out; omega)))
  have YK5 := Lib.hid (YK4.out.below (hb5.mono (by have := Z4.out; omega)))
  clear hb5 HP4 C4 U4 Z4 ID4 IK4 YD4 YK4
  have P5 := hash160_any _ _ ys w5 ID5.out Z5.out (by omega) (HR.out.below C5.out) (HT.out.below C5.out)
  rw [HV2.out] at P5
  have HP5 := Lib.hid P5
  clear P5
  go_wp2_with fail
  refine HP5.out.mono ?_
  rintro e w6 ⟨rfl, hb6⟩
  have hs6 := hb6.size
  have C6 := Lib.hid (C5.out.trans (hb6.mono C5.out.size))
  have U6 := Lib.hid (U5.out.trans (hb6.mono U5.out.size))
  have Z6 := Lib.hid (Nat.le_trans Z5.out hs6)
  have ID6 := Lib.hid (ID5.out.below (hb6.mono (by have := Z5.out; omega)))
  have IK6 := Lib.hid (IK5.out.below (hb6.mono (by have := Z5.out; omega)))
  have YD6 := Lib.hid (YD5.out.below (hb6.mono (by have := Z5.out; omega)))
  have YK6 := Lib.hid (YK5.out.below (hb6.mono (by have := Z5.out; omega)))
  clear hb6 HP5 C5 U5 Z5 ID5 IK5 YD5 YK5
  have P6 := rhash160_any B _ ys w6 YD6.out (by omega) (by omega)
  rw [HV2.out] at P6
  have HP6 := Lib.hid P6
  clear P6
  go_wp2_with fail
  refine HP6.out.mono ?_
  rintro e w7 ⟨rfl, hb7⟩
  have hs7 := hb7.size
  have C7 := Lib.hid (C6.out.trans (hb7.mono C6.out.size))
  have U7 := Lib.hid (U6.out.trans (hb7.mono U6.out.size))
  have Z7 := Lib.hid (Nat.le_trans Z6.out hs7)
  have ID7 := Lib.hid (ID6.out.below (hb7.mono (by have := Z6.out; omega)))
  have IK7 := Lib.hid (IK6.out.below (hb7.mono (by have := Z6.out; omega)))
  have YD7 := Lib.hid (YD6.out.below (hb7.mono (by have := Z6.out; omega)))
  have YK7 := Lib.hid (YK6.out.below (hb7.mono (by have := Z6.out; omega)))
  clear hb7 HP6 C6 U6 Z6 ID6 IK6 YD6 YK6
  have P7 := hmac_any _ _ _ ks ys w7 IK7.out ID7.out Z7.out (by omega) (by omega) (HR.out.below C7.out)
  rw [HV3.out] at P7
  have HP7 := Lib.hid P7
  clear P7
  go_wp2_with fail
  refine HP7.out.mono ?_
  rintro e w8 ⟨rfl, hb8⟩
  have hs8 := hb8.size
  have C8 := Lib.hid (C7.out.trans (hb8.mono C7.out.size))
  have U8 := Lib.hid (U7.out.trans (hb8.mono U7.out.size))
  have Z8 := Lib.hid (Nat.le_trans Z7.out hs8)
  have ID8 := Lib.hid (ID7.out.below (hb8.mono (by have := Z7.out; omega)))
  have IK8 := Lib.hid (IK7.out.below (hb8.mono (by have := Z7.out; omega)))
  have YD8 := Lib.hid (YD7.out.below (hb8.mono (by have := Z7.out; omega)))
  have YK8 := Lib.hid (YK7.out.below (hb8.mono (by have := Z7.out; omega)))
  clear hb8 HP7 C7 U7 Z7 ID7 IK7 YD7 YK7
  have P8 := rhmac_any B _ _ ks ys w8 YK8.out YD8.out (by omega) (by omega) (by omega)
  rw [HV3.out] at P8
  have HP8 := Lib.hid P8
  clear P8
  go_wp2_with fail
  refine HP8.out.mono ?_
  rintro e w9 ⟨rfl, hb9⟩
  have hs9 := hb9.size
  have C9 := Lib.hid (C8.out.trans (hb9.mono C8.out.size))
  have U9 := Lib.hid (U8.out.trans (hb9.mono U8.out.size))
  have Z9 := Lib.hid (Nat.le_trans Z8.out hs9)
  have ID9 := Lib.hid (ID8.out.below (hb9.mono (by have := Z8.out; omega)))
  have IK9 := Lib.hid (IK8.out.below (hb9.mono (by have := Z8.out; omega)))
  have YD9 := Lib.hid (YD8.out.below (hb9.mono (by have := Z8.out; omega)))
  have YK9 := Lib.hid (YK8.out.below (hb9.mono (by have := Z8.out; omega)))
  clear hb9 HP8 C8 U8 Z8 ID8 IK8 YD8 YK8
  have hrowd : Row w9 w1.heap.size (tinted ys) := HROWD.out.turns (Turns.of_below U9.out (S := fun _ => False)) (fun h => h)
  have halld := hrowd.byt (n := ys.length + 9) (c := ys.length + 9) (by rw [tinted_length]; omega) (by omega) (by unfold maxLen; omega)
  rw [List.take_of_length_le (by rw [tinted_length]; omega)] at halld
  have K := Lib.hid (kept_yes _ B _ _ ys w9 halld YD9.out (by omega))
  clear hrowd halld
  go_wp2_with fail
  refine K.out.mono ?_
  rintro e w10 ⟨rfl, k, hw10⟩
  have b910 : Below w9.heap.size w9 w10 := by rw [hw10]; exact ⟨rfl, rfl, rfl, Nat.le_refl _, fun _ _ => rfl⟩
  have hrowk : Row w10 w2.heap.size (tinted ks) := HROWK.out.turns (Turns.of_below (U9.out.trans (b910.mono Z9.out)) (S := fun _ => False)) (fun h => h)
  have hallk := hrowk.byt (n := ks.length + 9) (c := ks.length + 9) (by rw [tinted_length]; omega) (by omega) (by unfold maxLen; omega)
  rw [List.take_of_length_le (by rw [tinted_length]; omega)] at hallk
  have yk10 := YK9.out.below (b910.mono (by have := Z9.out; omega))
  have K2 := Lib.hid (kept_yes _ B _ _ ks w10 hallk yk10 (by omega))
  have C10 := Lib.hid (C9.out.trans (b910.mono C9.out.size))
  clear hrowk hallk yk10 hw10 b910 K
  go_wp2_with fail
  refine K2.out.mono ?_
  rintro e w11 ⟨rfl, k2, hw11⟩
  have b11 : Below w10.heap.size w10 w11 := by rw [hw11]; exact ⟨rfl, rfl, rfl, Nat.le_refl _, fun _ _ => rfl⟩
  have HFIN := Lib.hid (C10.out.trans (b11.mono C10.out.size))
  clear hw11 b11
  go_wp2_with fail
  go_ret
  exact ⟨rfl, HFIN.out⟩
end Go.Proofs.YtpcopimbnbmkmaaDoor
