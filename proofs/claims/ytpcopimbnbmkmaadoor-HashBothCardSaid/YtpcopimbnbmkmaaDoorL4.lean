/-
  Texts joined: Step256, S5Pure, S5Rot. Conditions: those of each.
-/
import Derived.Test.YtpcopimbnbmkmaaDoorL3
import Derived.Laws.CopyRow
/-
  hash.step256, walked. Conditions: the block has 64 bytes; the words are of 32 bits; the roots are laid.
-/
namespace Go.Proofs.YtpcopimbnbmkmaaDoor
open Go.RowKit

/-- The 80 constants of 64 bits. -/
def k512 : List Int := [0x428a2f98d728ae22, 0x7137449123ef65cd, 0xb5c0fbcfec4d3b2f, 0xe9b5dba58189dbbc,
0x3956c25bf348b538, 0x59f111f1b605d019, 0x923f82a4af194f9b, 0xab1c5ed5da6d8118,
0xd807aa98a3030242, 0x12835b0145706fbe, 0x243185be4ee4b28c, 0x550c7dc3d5ffb4e2,
0x72be5d74f27b896f, 0x80deb1fe3b1696b1, 0x9bdc06a725c71235, 0xc19bf174cf692694,
0xe49b69c19ef14ad2, 0xefbe4786384f25e3, 0x0fc19dc68b8cd5b5, 0x240ca1cc77ac9c65,
0x2de92c6f592b0275, 0x4a7484aa6ea6e483, 0x5cb0a9dcbd41fbd4, 0x76f988da831153b5,
0x983e5152ee66dfab, 0xa831c66d2db43210, 0xb00327c898fb213f, 0xbf597fc7beef0ee4,
0xc6e00bf33da88fc2, 0xd5a79147930aa725, 0x06ca6351e003826f, 0x142929670a0e6e70,
0x27b70a8546d22ffc, 0x2e1b21385c26c926, 0x4d2c6dfc5ac42aed, 0x53380d139d95b3df,
0x650a73548baf63de, 0x766a0abb3c77b2a8, 0x81c2c92e47edaee6, 0x92722c851482353b,
0xa2bfe8a14cf10364, 0xa81a664bbc423001, 0xc24b8b70d0f89791, 0xc76c51a30654be30,
0xd192e819d6ef5218, 0xd69906245565a910, 0xf40e35855771202a, 0x106aa07032bbd1b8,
0x19a4c116b8d2d0c8, 0x1e376c085141ab53, 0x2748774cdf8eeb99, 0x34b0bcb5e19b48a8,
0x391c0cb3c5c95a63, 0x4ed8aa4ae3418acb, 0x5b9cca4f7763e373, 0x682e6ff3d6b2b8a3,
0x748f82ee5defb2fc, 0x78a5636f43172f60, 0x84c87814a1f0ab72, 0x8cc702081a6439ec,
0x90befffa23631e28, 0xa4506cebde82bde9, 0xbef9a3f7b2c67915, 0xc67178f2e372532b,
0xca273eceea26619c, 0xd186b8c721c0c207, 0xeada7dd6cde0eb1e, 0xf57d4f7fee6ed178,
0x06f067aa72176fba, 0x0a637dc5a2c898a6, 0x113f9804bef90dae, 0x1b710b35131c471b,
0x28db77f523047d84, 0x32caab7b40c72493, 0x3c9ebe0a15c9bebc, 0x431d67c49c100d4c,
0x4cc5d4becb3e42b6, 0x597f299cfc657e2a, 0x5fcb6fab3ad6faec, 0x6c44198c4a475817]
theorem k256_of : k256 = (k512.take 64).map (· / 4294967296) := by decide
/-- The roots lie in the program's memory. -/
def CubeIs (w : World) : Prop := 1 < w.heap.size ∧ ∀ (t : Nat) (k : Int), k512[t]? = some k → w.cell? ⟨1, t, none⟩ = some (.int .u64 k)
theorem CubeIs.below {w w' : World} {B : Nat} (h : CubeIs w) (hb : Below B w w') (hB : 1 < B) : CubeIs w' := by
  refine ⟨Nat.lt_of_lt_of_le h.1 hb.size, fun t k hk => ?_⟩
  exact (hb.cell (p := ⟨1, t, none⟩) hB).trans (h.2 t k hk)
theorem k512_at {t : Nat} (h : t < 64) : ∃ k, k512[t]? = some k ∧ k256.getD t 0 = k / 4294967296 ∧ 0 ≤ k ∧ k < 18446744073709551616 := by
  have hl : k512.length = 80 := rfl
  refine ⟨k512[t]'(by omega), List.getElem?_eq_getElem _, ?_, ?_⟩
  · rw [k256_of, List.getD_eq_getElem?_getD, List.getElem?_map, List.getElem?_take, if_pos h, List.getElem?_eq_getElem (by omega)]
    rfl
  · have h2 : ∀ x ∈ k512, 0 ≤ x ∧ x < 18446744073709551616 := by decide
    exact h2 _ (List.getElem_mem _)
theorem info_8 : (Tryd.prog.info? 40).map (·.size) = some 8 := by kernel_rfl

/-- The first i words with what a block gives them. -/
def mix (l v : List Int) (i : Nat) : List Int := (List.range 8).map fun k => if k < i then add32 (l.getD k 0) (v.getD k 0) else l.getD k 0
theorem idx8 (a b c d e f g h : Int) {i : Nat} (hi : i < 8) : ∃ v, [a, b, c, d, e, f, g, h][i]? = some v ∧ ∀ w, (Instr.index 40 (.agg #[.int .u32 a, .int .u32 b, .int .u32 c, .int .u32 d, .int .u32 e, .int .u32 f, .int .u32 g, .int .u32 h]) (.int .i64 i)).run Tryd.prog w = .ok (.int .u32 v) w := by
  obtain rfl | rfl | rfl | rfl | rfl | rfl | rfl | rfl : i = 0 ∨ i = 1 ∨ i = 2 ∨ i = 3 ∨ i = 4 ∨ i = 5 ∨ i = 6 ∨ i = 7 := by omega
  · exact ⟨_, rfl, fun w => by kernel_rfl⟩
  · exact ⟨_, rfl, fun w => by kernel_rfl⟩
  · exact ⟨_, rfl, fun w => by kernel_rfl⟩
  · exact ⟨_, rfl, fun w => by kernel_rfl⟩
  · exact ⟨_, rfl, fun w => by kernel_rfl⟩
  · exact ⟨_, rfl, fun w => by kernel_rfl⟩
  · exact ⟨_, rfl, fun w => by kernel_rfl⟩
  · exact ⟨_, rfl, fun w => by kernel_rfl⟩
theorem mix_at (l v : List Int) {i : Nat} (hi : i < 8) : (mix l v i)[i]? = some (l.getD i 0) := by
  obtain rfl | rfl | rfl | rfl | rfl | rfl | rfl | rfl : i = 0 ∨ i = 1 ∨ i = 2 ∨ i = 3 ∨ i = 4 ∨ i = 5 ∨ i = 6 ∨ i = 7 := by omega
  all_goals rfl
theorem mix_next (l v : List Int) {i : Nat} (hi : i < 8) : (mix l v i).set i (add32 (l.getD i 0) (v.getD i 0)) = mix l v (i + 1) := by
  obtain rfl | rfl | rfl | rfl | rfl | rfl | rfl | rfl : i = 0 ∨ i = 1 ∨ i = 2 ∨ i = 3 ∨ i = 4 ∨ i = 5 ∨ i = 6 ∨ i = 7 := by omega
  all_goals rfl
set_option maxRecDepth 100000 in
set_option maxHeartbeats 6400000 in
theorem step256_any (b o c : Nat) (s0 : S8) (bs : List UInt8) (w : World) (hs : s0.Ok) (hl : bs.length = 64) (hc : 64 ≤ c) (hcm : c ≤ 9223372036854775807) (hb : b < w.heap.size) (hcell : ∀ (j : Nat) (u : UInt8), bs[j]? = some u → w.cell? ⟨b, o + j, none⟩ = some (bv u)) (hcube : CubeIs w) :
    Calls Tryd.prog 43 #[.agg (s0.list.map (Value.int .u32)).toArray, .slice (some ⟨b, o, none⟩) 64 c] w fun e w' => e = .returned (.agg ((comp256 s0 bs).list.map (Value.int .u32)).toArray) ∧ Below w.heap.size w w' := by
  have HC := Lib.hid hcell
  have HL := Lib.hid hl
  have HK := Lib.hid hcube
  have HS := Lib.hid hs
  clear hcell hl hcube hs
  go_enter Tryd.func43, Tryd.ntmps43
  go_wp2_with fail
  have rA := IRow.new w 40 .u32 s0.list
  have bA : Below w.heap.size w (w.alloc (.cells (s0.list.map (Value.int .u32)).toArray 40)) := (Below.refl _ w).alloc (Nat.le_refl _) _
  have sA : (w.alloc (.cells (s0.list.map (Value.int .u32)).toArray 40)).heap.size = w.heap.size + 1 := by simp
  generalize w.alloc (.cells (s0.list.map (Value.int .u32)).toArray 40) = wA at *
  have rB := IRow.new wA 40 .u32 (List.replicate 8 0)
  have bB : Below (w.heap.size + 1) wA (wA.alloc (.cells ((List.replicate 8 (0 : Int)).map (Value.int .u32)).toArray 40)) := (Below.refl _ wA).alloc (by omega) _
  have sB : (wA.alloc (.cells ((List.replicate 8 (0 : Int)).map (Value.int .u32)).toArray 40)).heap.size = w.heap.size + 2 := by simp; omega
  rw [sA] at rB
  obtain ⟨wB, hwB⟩ : ∃ x, x = wA.alloc (.cells ((List.replicate 8 (0 : Int)).map (Value.int .u32)).toArray 40) := ⟨_, rfl⟩
  rw [← hwB] at rB bB sB
  change Calls _ _ _ (wA.alloc (.cells ((List.replicate 8 (0 : Int)).map (Value.int .u32)).toArray 40)) _
  rw [← hwB]
  clear hwB
  have rA2 := rA.below bB (Nat.lt_succ_self _)
  have hB0 : Below w.heap.size w wB := bA.trans (bB.mono (by omega))
  refine (sched_any b o c bs wB HL.out hc hcm (by omega) (fun j u hu => (hB0.cell (p := ⟨b, o + j, none⟩) hb).trans (HC.out j u hu))).mono ?_
  rintro e w3 ⟨rfl, hb3⟩
  rw [sB] at hb3
  have rA3 := rA2.below hb3 (by omega)
  have rB3 := rB.below hb3 (by omega)
  have s3 : w.heap.size + 2 ≤ w3.heap.size := by have := hb3.size; omega
  have rW := IRow.new w3 49 .u32 (List.replicate 64 0)
  have HRW := Lib.hid rW
  clear rW rA rA2 rB
  go_wp2_with (first
    | (refine wpList_store_irow rfl 49 (.tmp 5) (.tmp 22) rfl (g := w3.heap.size) (t := 49) (k := .u32) (xs := List.replicate 64 0) (ys := W64 bs) rfl rfl HRW.out (by rw [W64_length]; exact info_64) (by rw [W64_length]; rfl) ?_))
  have rW4 : IRow ((w3.alloc (.cells ((List.replicate 64 (0 : Int)).map (Value.int .u32)).toArray 49)).setRow w3.heap.size ((W64 bs).map (Value.int .u32)).toArray) w3.heap.size 49 .u32 (W64 bs) := setRow_irow HRW.out
  have b4 : Below w3.heap.size w3 ((w3.alloc (.cells ((List.replicate 64 (0 : Int)).map (Value.int .u32)).toArray 49)).setRow w3.heap.size ((W64 bs).map (Value.int .u32)).toArray) := below_setRow ((Below.refl _ w3).alloc (Nat.le_refl _) _) (Nat.le_refl _) _
  change Code.wp _ _ _ _ ((w3.alloc (.cells ((List.replicate 64 (0 : Int)).map (Value.int .u32)).toArray 49)).setRow w3.heap.size ((W64 bs).map (Value.int .u32)).toArray)
  obtain ⟨w4, hw4⟩ : ∃ x, x = (w3.alloc (.cells ((List.replicate 64 (0 : Int)).map (Value.int .u32)).toArray 49)).setRow w3.heap.size ((W64 bs).map (Value.int .u32)).toArray := ⟨_, rfl⟩
  rw [← hw4] at rW4 b4 ⊢
  clear hw4 HRW
  have rA4 := rA3.below b4 (by omega)
  have rB4 := rB3.below b4 (by omega)
  have hB4 : Below w.heap.size w w4 := hB0.trans ((hb3.mono (by omega)).trans (b4.mono (by omega)))
  have m0 := rA4.cell (i := 0) rfl
  have m1 := rA4.cell (i := 1) rfl
  have m2 := rA4.cell (i := 2) rfl
  have m3 := rA4.cell (i := 3) rfl
  have m4 := rA4.cell (i := 4) rfl
  have m5 := rA4.cell (i := 5) rfl
  have m6 := rA4.cell (i := 6) rfl
  have m7 := rA4.cell (i := 7) rfl
  have HA4 := Lib.hid rA4
  have HB4 := Lib.hid rB4
  have HW4 := Lib.hid rW4
  have HL4 := Lib.hid hB4
  have S4 := Lib.hid (⟨sA, sB, s3, b4.size⟩ : wA.heap.size = w.heap.size + 1 ∧ wB.heap.size = w.heap.size + 2 ∧ w.heap.size + 2 ≤ w3.heap.size ∧ w3.heap.size ≤ w4.heap.size)
  clear rA3 rB3 rA4 rB4 rW4 hB4 hB0 bA bB hb3 sA sB s3 b4
  go_quiet (fail)
  go_wp2_with fail
  clear m0 m1 m2 m3 m4 m5 m6 m7
  go_loopw [39, 6, 7, 8, 9, 10, 11, 12, 13] (fun j va vb vc vd ve vf vg vh wr => ∃ (t : Nat) (s : S8), t ≤ 64 ∧ Hid (s = rounds k256 (W64 bs) t s0) ∧ j = .int .i64 t ∧ va = .int .u32 s.a ∧ vb = .int .u32 s.b ∧ vc = .int .u32 s.c ∧ vd = .int .u32 s.d ∧ ve = .int .u32 s.e ∧ vf = .int .u32 s.f ∧ vg = .int .u32 s.g ∧ vh = .int .u32 s.h ∧
      IRow wr w.heap.size 40 .u32 s0.list ∧ IRow wr (w.heap.size + 1) 40 .u32 (List.replicate 8 0) ∧ IRow wr w3.heap.size 49 .u32 (W64 bs) ∧ Below w.heap.size w wr ∧ w3.heap.size ≤ wr.heap.size) (fun j _ _ _ _ _ _ _ _ _ => 64 - (intOf j).toNat)
  case atStart => exact ⟨0, s0, by omega, Lib.hid rfl, rfl, rfl, rfl, rfl, rfl, rfl, rfl, rfl, rfl, HA4.out, HB4.out, HW4.out, ⟨HL4.out.os, HL4.out.tape, HL4.out.output, HL4.out.size, HL4.out.block⟩, S4.out.2.2.2⟩
  case round =>
    obtain ⟨t, s, ht, hst, rfl, rfl, rfl, rfl, rfl, rfl, rfl, rfl, rfl, hra, hrb, hrw, hbel, hsz⟩ := hrel
    by_cases h64 : t < 64
    · obtain ⟨kk, hk, hk2, hk0, hk1⟩ := k512_at h64
      have kc := (HK.out.below hbel HK.out.1).2 t kk hk
      obtain ⟨x, hx⟩ : ∃ x, (W64 bs)[t]? = some x := ⟨_, List.getElem?_eq_getElem (by rw [W64_length]; omega)⟩
      have wc := hrw.cell hx
      obtain ⟨q, hq⟩ : ∃ q, q = kk / 4294967296 := ⟨_, rfl⟩
      have hq0 : 0 ≤ q := by omega
      have hq1 : q < 4294967296 := by omega
      have bt : (t : Int) < 64 := by omega
      have bt8 : (t : Int) < 80 := by omega
      have hok : s.Ok := by rw [hst.out]; exact rounds_ok _ _ _ HS.out
      have C1 := Lib.hid (fun W => rotl_any s.e (-6) 18446744073709551610 26 W hok.e (by decide) (by decide) (by decide))
      have C2 := Lib.hid (fun W => rotl_any s.e (-11) 18446744073709551605 21 W hok.e (by decide) (by decide) (by decide))
      have C3 := Lib.hid (fun W => rotl_any s.e (-25) 18446744073709551591 7 W hok.e (by decide) (by decide) (by decide))
      have C4 := Lib.hid (fun W => rotl_any s.a (-2) 18446744073709551614 30 W hok.a (by decide) (by decide) (by decide))
      have C5 := Lib.hid (fun W => rotl_any s.a (-13) 18446744073709551603 19 W hok.a (by decide) (by decide) (by decide))
      have C6 := Lib.hid (fun W => rotl_any s.a (-22) 18446744073709551594 10 W hok.a (by decide) (by decide) (by decide))
      have HX := Lib.hid hx
      have HK2 := Lib.hid hk2
      have HRA := Lib.hid hra
      have HRB := Lib.hid hrb
      have HRW := Lib.hid hrw
      have HBEL := Lib.hid hbel
      have HSZ := Lib.hid hsz
      have HU := Lib.hid u32_wrap
      clear hx hk2 hra hrb hrw hbel hsz hk hok
      go_wp2_with fail
      refine (C1.out _).mono ?_
      rintro e w5 ⟨rfl, rfl⟩
      go_wp2_with fail
      refine (C2.out _).mono ?_
      rintro e w5 ⟨rfl, rfl⟩
      go_wp2_with fail
      refine (C3.out _).mono ?_
      rintro e w5 ⟨rfl, rfl⟩
      go_wp2_with fail
      obtain ⟨S1, hS1⟩ : ∃ z, z = bits .xor .u32 (bits .xor .u32 (rot32 26 s.e) (rot32 21 s.e)) (rot32 7 s.e) := ⟨_, rfl⟩
      rw [← hS1]
      have HS1 := Lib.hid hS1
      clear hS1
      refine wp_region_still_lit (by kernel_rfl) (by kernel_rfl) ?_
      iterate 12 still_step
      obtain ⟨CH, hCH⟩ : ∃ z, z = bits .xor .u32 (bits .and .u32 s.e s.f) (bits .and .u32 (bits .xor .u32 (if IntKind.u32.signed = true then -1 else IntKind.u32.max) s.e) s.g) := ⟨_, rfl⟩
      obtain ⟨A1, hA1⟩ : ∃ z, z = IntKind.u32.wrap (s.h + S1) := ⟨_, rfl⟩
      obtain ⟨A2, hA2⟩ : ∃ z, z = IntKind.u32.wrap (A1 + CH) := ⟨_, rfl⟩
      rw [← hCH, ← hA1, ← hA2]
      have HCH := Lib.hid hCH
      have HA1 := Lib.hid hA1
      have HA2 := Lib.hid hA2
      clear hCH hA1 hA2
      iterate 6 still_step
      obtain ⟨KK, hKK⟩ : ∃ z, z = IntKind.u32.wrap (kk / 4294967296) := ⟨_, rfl⟩
      obtain ⟨A3, hA3⟩ : ∃ z, z = IntKind.u32.wrap (A2 + KK) := ⟨_, rfl⟩
      rw [← hKK, ← hA3]
      have HKK := Lib.hid hKK
      have HA3 := Lib.hid hA3
      clear hKK hA3
      iterate 4 still_step
      obtain ⟨T1, hT1⟩ : ∃ z, z = IntKind.u32.wrap (A3 + x) := ⟨_, rfl⟩
      rw [← hT1]
      have HT0 := Lib.hid hT1
      clear hT1
      still_step
      refine wpStill_nil ?_
      have HT1 := Lib.hid (show T1 = add32 (add32 (add32 (add32 s.h (big1 s.e)) (ch32 s.e s.f s.g)) q) x by
        rw [HT0.out, HA3.out, HKK.out, HA2.out, HA1.out, HCH.out, HS1.out]
        simp only [u32_wrap]
        rw [← hq, Int.emod_eq_of_lt hq0 hq1]
        rfl)
      clear HT0 HA3 HKK HA2 HA1 HCH HS1
      change Exit.then _ _ Exit.normal _ wr.drew
      obtain ⟨wd, hwd⟩ : ∃ x, x = wr.drew := ⟨_, rfl⟩
      rw [← hwd]
      have HRA2 : Hid (IRow wd w.heap.size 40 .u32 s0.list) := Lib.hid (by rw [hwd]; exact HRA.out)
      have HRB2 : Hid (IRow wd (w.heap.size + 1) 40 .u32 (List.replicate 8 0)) := Lib.hid (by rw [hwd]; exact HRB.out)
      have HRW2 : Hid (IRow wd w3.heap.size 49 .u32 (W64 bs)) := Lib.hid (by rw [hwd]; exact HRW.out)
      have HBEL2 : Hid (Below w.heap.size w wd) := Lib.hid (by rw [hwd]; exact HBEL.out.drew)
      have HSZ2 : Hid (w3.heap.size ≤ wd.heap.size) := Lib.hid (by rw [hwd]; exact HSZ.out)
      clear hwd HRA HRB HRW HBEL HSZ kc wc
      generalize bits BinOp.xor IntKind.u32 (if IntKind.u32.signed = true then -1 else IntKind.u32.max) s.e = NE
      generalize bits BinOp.and IntKind.u32 NE s.g = NG
      generalize kk / 4294967296 = KQ
      go_wp2_with fail
      refine (C4.out _).mono ?_
      rintro e w5 ⟨rfl, rfl⟩
      go_wp2_with fail
      refine (C5.out _).mono ?_
      rintro e w5 ⟨rfl, rfl⟩
      go_wp2_with fail
      refine (C6.out _).mono ?_
      rintro e w5 ⟨rfl, rfl⟩
      go_wp2_with fail
      have HR := Lib.hid (show rnd q x s = ⟨add32 T1 (add32 (big0 s.a) (maj32 s.a s.b s.c)), s.a, s.b, s.c, add32 s.d T1, s.e, s.f, s.g⟩ by rw [HT1.out]; rfl)
      refine ⟨⟨t + 1, rnd q x s, by omega, Lib.hid ?_, by go_num, ?_, ?_, ?_, ?_, ?_, ?_, ?_, ?_, HRA2.out, HRB2.out, HRW2.out, HBEL2.out, HSZ2.out⟩, by simp [intOf]; omega⟩
      · rw [rounds, ← hst.out, HK2.out, List.getD_eq_getElem?_getD, HX.out, ← hq]
        rfl
      all_goals (rw [HR.out]; try rfl)
    · obtain rfl : t = 64 := by omega
      have h64' : ((64 : Nat) : Int) = 64 := rfl
      rw [h64']
      have HRA := Lib.hid hra
      have HRB := Lib.hid hrb
      have HBEL := Lib.hid hbel
      have HST := Lib.hid hst.out
      clear h64' hra hrb hrw hbel hst hsz ht h64
      go_wp2_with fail
      go_loopw [115] (fun j wr => ∃ i : Nat, i ≤ 8 ∧ j = .int .i64 i ∧ IRow wr w.heap.size 40 .u32 (mix s0.list s.list i) ∧ IRow wr (w.heap.size + 1) 40 .u32 (List.replicate 8 0) ∧ Below w.heap.size w wr) (fun j _ => 8 - (intOf j).toNat)
      case atStart => exact ⟨0, by omega, rfl, HRA.out, HRB.out, HBEL.out⟩
      case round =>
        obtain ⟨i, hi, rfl, hra, hrb, hbel⟩ := hrel
        by_cases h8 : i < 8
        · obtain ⟨v, hv, hix⟩ := idx8 s.a s.b s.c s.d s.e s.f s.g s.h h8
          obtain ⟨l, hl⟩ : ∃ l, l = s0.list.getD i 0 := ⟨_, rfl⟩
          have hat := hra.cell (mix_at s0.list s.list h8)
          rw [← hl] at hat
          have hvd : s.list.getD i 0 = v := by rw [List.getD_eq_getElem?_getD]; exact congrArg (·.getD 0) hv
          have hset := hra.set i (add32 (s0.list.getD i 0) (s.list.getD i 0))
          rw [mix_next _ _ h8, hvd, ← hl] at hset
          have hfr := hra.free i
          have b8 : (i : Int) < 8 := by omega
          have HSET := Lib.hid hset
          have HRB2 := Lib.hid hrb
          have HBEL2 := Lib.hid hbel
          have HU := Lib.hid u32_wrap
          clear hv hvd hl hset hra hrb hbel
          go_wp2_with fail
          refine ⟨⟨i + 1, by omega, by go_num, HSET.out, ?_, ?_⟩, by simp [intOf]; omega⟩
          · exact (Below.heap_setCell wr _ _ _ (by intro h; have h' : w.heap.size + 1 = w.heap.size := h; omega)).trans HRB2.out
          · have h := HBEL2.out.setCell (p := ⟨w.heap.size, i, none⟩) (Nat.le_refl _) (.int .u32 (add32 l v))
            exact ⟨h.os, h.tape, h.output, h.size, h.block⟩
        · obtain rfl : i = 8 := by omega
          have h8' : ((8 : Nat) : Int) = 8 := rfl
          rw [h8']
          have e8 : mix s0.list s.list 8 = (comp256 s0 bs).list := by
            unfold comp256
            rw [← HST.out]
            rfl
          rw [e8] at hra
          have HRA3 := Lib.hid hra
          have HRB3 := Lib.hid hrb
          have HFIN := Lib.hid (setRow_irow (ys := (comp256 s0 bs).list) hrb)
          have HBF := Lib.hid (below_setRow hbel (Nat.le_succ _) ((comp256 s0 bs).list.map (Value.int .u32)).toArray)
          clear h8' e8 hra hrb hbel hi h8
          go_wp2_with (first
            | (refine wpList_load_irow rfl 40 (.tmp 2) rfl (g := w.heap.size) (t := 40) (k := .u32) (xs := (comp256 s0 bs).list) rfl HRA3.out Tryd.underlying40 info_8 ?_)
            | (refine wpList_store_irow rfl 40 (.tmp 4) (.tmp 126) rfl (g := w.heap.size + 1) (t := 40) (k := .u32) (xs := List.replicate 8 0) (ys := (comp256 s0 bs).list) rfl rfl HRB3.out info_8 rfl ?_))
          refine bodyPost_ret (v := .agg ((comp256 s0 bs).list.map (Value.int .u32)).toArray) ?_ rfl ⟨rfl, HBF.out⟩
          obtain ⟨fr, hrw⟩ : ∃ fr, ((wr.setRow (w.heap.size + 1) ((comp256 s0 bs).list.map (Value.int .u32)).toArray)).heap[w.heap.size + 1]? = some (.cells ((comp256 s0 bs).list.map (Value.int .u32)).toArray 40 fr) := ⟨_, HFIN.out⟩
          exact results_cell_row Tryd.results43 _ _ (w.heap.size + 1) 40 ((comp256 s0 bs).list.map (Value.int .u32)).toArray fr _ rfl hrw Tryd.underlying40 rfl info_8
end Go.Proofs.YtpcopimbnbmkmaaDoor

/-
  SHA-512 on plain numbers, in the words of the walks. Conditions: none (plain mathematics).
-/
namespace Go.Proofs.YtpcopimbnbmkmaaDoor.S5

/-- The sum of two words. -/
def add64 (a b : Int) : Int := (a + b) % 18446744073709551616
def rot64 (n : Nat) (x : Int) : Int := bits .or .u64 (x * 2 ^ n % 18446744073709551616) (x / 2 ^ (64 - n))
def not64 (x : Int) : Int := bits .xor .u64 IntKind.u64.max x
def big1 (e : Int) : Int := bits .xor .u64 (bits .xor .u64 (rot64 50 e) (rot64 46 e)) (rot64 23 e)
def big0 (a : Int) : Int := bits .xor .u64 (bits .xor .u64 (rot64 36 a) (rot64 30 a)) (rot64 25 a)
def ch64 (e f g : Int) : Int := bits .xor .u64 (bits .and .u64 e f) (bits .and .u64 (not64 e) g)
def maj64 (a b c : Int) : Int := bits .xor .u64 (bits .xor .u64 (bits .and .u64 a b) (bits .and .u64 a c)) (bits .and .u64 b c)
def small0 (x : Int) : Int := bits .xor .u64 (bits .xor .u64 (rot64 63 x) (rot64 56 x)) (x / 128)
def small1 (x : Int) : Int := bits .xor .u64 (bits .xor .u64 (rot64 45 x) (rot64 3 x)) (x / 64)

structure S8 where
  a : Int
  b : Int
  c : Int
  d : Int
  e : Int
  f : Int
  g : Int
  h : Int
def rnd (k w : Int) (s : S8) : S8 :=
  let t1 := add64 (add64 (add64 (add64 s.h (big1 s.e)) (ch64 s.e s.f s.g)) k) w
  let t2 := add64 (big0 s.a) (maj64 s.a s.b s.c)
  ⟨add64 t1 t2, s.a, s.b, s.c, add64 s.d t1, s.e, s.f, s.g⟩

def U64 (x : Int) : Prop := 0 ≤ x ∧ x < 18446744073709551616
theorem add64_u (a b : Int) : U64 (add64 a b) := by unfold add64 U64; omega
theorem bits64_u (op : BinOp) (a b : Int) : U64 (bits op .u64 a b) := by
  unfold bits
  have : ∀ n : Int, U64 (IntKind.u64.wrap n) := fun n => by unfold U64 IntKind.wrap; simp [IntKind.bits, IntKind.signed]; omega
  exact this _
structure S8.Ok (s : S8) : Prop where
  a : U64 s.a
  b : U64 s.b
  c : U64 s.c
  d : U64 s.d
  e : U64 s.e
  f : U64 s.f
  g : U64 s.g
  h : U64 s.h
theorem rnd_ok (k w : Int) {s : S8} (h : s.Ok) : (rnd k w s).Ok := ⟨add64_u _ _, h.a, h.b, h.c, add64_u _ _, h.e, h.f, h.g⟩


theorem u64_wrap (n : Int) : IntKind.u64.wrap n = n % 18446744073709551616 := by simp [IntKind.wrap, IntKind.bits, IntKind.signed]
/-- Eight bytes as a word, the greatest first. -/
def be64 (x y : Int) : Int := x * 4294967296 + y
theorem be64_u {x y : Int} (hx : U32 x) (hy : U32 y) : U64 (be64 x y) := by
  obtain ⟨h0, h1⟩ := hx
  obtain ⟨h2, h3⟩ := hy
  unfold be64 U64
  omega
def wordAt (bs : List UInt8) (t : Nat) : Int := be64 (be32 (bs.getD (8 * t) 0) (bs.getD (8 * t + 1) 0) (bs.getD (8 * t + 2) 0) (bs.getD (8 * t + 3) 0)) (be32 (bs.getD (8 * t + 4) 0) (bs.getD (8 * t + 5) 0) (bs.getD (8 * t + 6) 0) (bs.getD (8 * t + 7) 0))
def words16 (bs : List UInt8) : List Int := (List.range 16).map (wordAt bs)

/-- The next word of the schedule. -/
def nextW (ws : List Int) : Int :=
  add64 (add64 (add64 (small1 (ws.getD (ws.length - 2) 0)) (ws.getD (ws.length - 7) 0)) (small0 (ws.getD (ws.length - 15) 0))) (ws.getD (ws.length - 16) 0)
def schedN (ws : List Int) : Nat → List Int
  | 0 => ws
  | n + 1 => schedN ws n ++ [nextW (schedN ws n)]
theorem schedN_length (ws : List Int) : ∀ n, (schedN ws n).length = ws.length + n
  | 0 => rfl
  | n + 1 => by rw [schedN, List.length_append, schedN_length ws n]; rfl
def W80 (bs : List UInt8) : List Int := schedN (words16 bs) 64
theorem W80_length (bs : List UInt8) : (W80 bs).length = 80 := by
  unfold W80
  rw [schedN_length]
  simp [words16]

def rounds (ks ws : List Int) : Nat → S8 → S8
  | 0, s => s
  | t + 1, s => rnd (ks.getD t 0) (ws.getD t 0) (rounds ks ws t s)
theorem rounds_ok (ks ws : List Int) : ∀ (t : Nat) {s : S8}, s.Ok → (rounds ks ws t s).Ok
  | 0, _, h => h
  | t + 1, _, h => rnd_ok _ _ (rounds_ok ks ws t h)
def S8.list (s : S8) : List Int := [s.a, s.b, s.c, s.d, s.e, s.f, s.g, s.h]
/-- A block more. -/
def comp512 (s : S8) (bs : List UInt8) : S8 :=
  let v := rounds k512 (W80 bs) 80 s
  ⟨add64 s.a v.a, add64 s.b v.b, add64 s.c v.c, add64 s.d v.d, add64 s.e v.e, add64 s.f v.f, add64 s.g v.g, add64 s.h v.h⟩
theorem comp512_ok (s : S8) (bs : List UInt8) : (comp512 s bs).Ok := ⟨add64_u _ _, add64_u _ _, add64_u _ _, add64_u _ _, add64_u _ _, add64_u _ _, add64_u _ _, add64_u _ _⟩
def start512 : S8 := ⟨0x6a09e667f3bcc908, 0xbb67ae8584caa73b, 0x3c6ef372fe94f82b, 0xa54ff53a5f1d36f1, 0x510e527fade682d1, 0x9b05688c2b3e6c1f, 0x1f83d9abfb41bd6b, 0x5be0cd19137e2179⟩
theorem start512_ok : start512.Ok := ⟨by unfold U64; decide, by unfold U64; decide, by unfold U64; decide, by unfold U64; decide, by unfold U64; decide, by unfold U64; decide, by unfold U64; decide, by unfold U64; decide⟩
/-- Block by block. -/
def blocks512 (m : List UInt8) : Nat → S8
  | 0 => start512
  | n + 1 => comp512 (blocks512 m n) ((m.drop (128 * n)).take 128)
theorem blocks512_ok (m : List UInt8) : ∀ n, (blocks512 m n).Ok
  | 0 => start512_ok
  | _ + 1 => comp512_ok _ _
theorem blocks512_more {m : List UInt8} (x : List UInt8) : ∀ n, 128 * n ≤ m.length → blocks512 (m ++ x) n = blocks512 m n
  | 0, _ => rfl
  | n + 1, h => by
    unfold blocks512
    rw [blocks512_more x n (by omega), List.drop_append_of_le_length (by omega), List.take_append_of_le_length (by rw [List.length_drop]; omega)]

/-- What closes a message of n bytes. -/
def padB (n : Nat) : List UInt8 := [128] ++ List.replicate ((239 - n % 128) % 128 + 8) 0 ++ lenB n
theorem padB_fits (n : Nat) : (n + (padB n).length) % 128 = 0 := by
  unfold padB lenB
  simp only [List.length_append, List.length_cons, List.length_nil, List.length_replicate, List.length_map, List.length_range]
  omega
def full (m : List UInt8) : List UInt8 := m ++ padB m.length
/-- The halves of the words. -/
def halves (ws : List Int) : List Int := ws.flatMap fun w => [w / 4294967296, w % 4294967296]
theorem halves_length (ws : List Int) : (halves ws).length = 2 * ws.length := by
  induction ws with
  | nil => rfl
  | cons w ws ih => unfold halves at ih ⊢; rw [List.flatMap_cons, List.length_append, ih, List.length_cons]; simp; omega
theorem halves_append (a b : List Int) : halves (a ++ b) = halves a ++ halves b := by simp [halves]
theorem halves_u {x : Int} (h : U64 x) : U32 (x / 4294967296) ∧ U32 (x % 4294967296) := by
  obtain ⟨h0, h1⟩ := h
  unfold U32
  omega
/-- The bytes of the words. -/
def outW (ws : List Int) : List UInt8 := outB (halves ws)
def sha512 (m : List UInt8) : List UInt8 := outW (blocks512 (full m) ((full m).length / 128)).list
theorem outW_length (ws : List Int) : (outW ws).length = 8 * ws.length := by
  unfold outW
  rw [outB_length, halves_length]
  omega
theorem sha512_length (m : List UInt8) : (sha512 m).length = 64 := by
  unfold sha512
  rw [outW_length]
  rfl
end Go.Proofs.YtpcopimbnbmkmaaDoor.S5

/-
  math/bits.RotateLeft64. Conditions: none.
-/
namespace Go.Proofs.YtpcopimbnbmkmaaDoor.S5
open Go.RowKit

set_option maxRecDepth 100000 in
set_option maxHeartbeats 800000 in
theorem rotl_any (x k : Int) (m n : Nat) (w : World) (_hx : U64 x) (h1 : IntKind.u64.wrap k = (m : Int)) (h2 : m % 64 = n) (hm : m < 18446744073709551616) :
    Calls Tryd.prog 45 #[.int .u64 x, .int .i64 k] w fun e w' => e = .returned (.int .u64 (rot64 n x)) ∧ w = w' := by
  have e1 : (m : Int) % 64 = (n : Int) := by omega
  have hn : n ≤ 63 := by omega
  have e2 : bits .and .u64 (m : Int) 63 = (n : Int) := by
    have h := bits_mask .u64 64 (by decide) wraps_u64 6 (by decide) (m : Int) (by omega) (by omega)
    have e5 : ((2 : Int) ^ 6 - 1) = 63 := by decide
    rw [e5] at h
    rw [h, ← e1]
    rfl
  obtain ⟨q, hq⟩ : ∃ q, q = 64 - n := ⟨_, rfl⟩
  have e3 : (64 : Int) - (n : Int) = (q : Int) := by omega
  have hr : rot64 n x = bits .or .u64 (x * 2 ^ n % 18446744073709551616) (x / 2 ^ q) := by rw [hq]; rfl
  have HR := Lib.hid hr
  have hq32 : q ≤ 64 := by omega
  clear hr hq h2
  go_enter Tryd.func45, Tryd.ntmps45
  go_wp2
  go_ret
  exact ⟨by rw [HR.out]; rfl, rfl⟩

end Go.Proofs.YtpcopimbnbmkmaaDoor.S5
