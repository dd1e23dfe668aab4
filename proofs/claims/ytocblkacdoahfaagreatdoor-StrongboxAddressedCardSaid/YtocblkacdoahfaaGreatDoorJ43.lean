/-
  Texts joined: Hb160, SaLaw, SaOpen. Conditions: those of each.
-/
import Derived.Test.YtocblkacdoahfaaGreatDoorJ38
import Derived.Test.YtocblkacdoahfaaGreatDoorJ42
import Derived.Test.YtocblkacdoahfaaGreatDoorJ18
import Derived.Test.YtocblkacdoahfaaGreatDoorJ16
import Derived.Test.YtocblkacdoahfaaGreatDoorJ15
import Derived.Test.YtocblkacdoahfaaGreatDoorJ13
import Derived.Test.YtocblkacdoahfaaGreatDoorJ14
import Derived.Test.YtocblkacdoahfaaGreatDoorJ12
import Derived.Test.YtocblkacdoahfaaGreatDoorJ30
import Derived.Test.YtocblkacdoahfaaGreatDoorJ39
import Derived.Test.YtocblkacdoahfaaGreatDoorRows
import Derived.Test.YtocblkacdoahfaaGreatDoorCards
import Derived.Test.YtocblkacdoahfaaGreatDoorTie
import Derived.SevenTiedAt
import Derived.ChangeSame
import Derived.JoinedOf
import Derived.JoinedAt
import Derived.LaidMore
import Derived.LaidHandle
import Derived.Stop.Joined
import Derived.Deep.Slices
import Derived.Deep.Fields
import Derived.ProofKit
import Derived.OpenShut
import Derived.ChangeOld
import Derived.SizedLaws
import Derived.ChangeMaps5
import Derived.Lib.LaidTab
/-
  Hash160 of the program and of the reference, walked. Conditions: sizes within the reach; the roots and the tables are laid.
-/
namespace Go.Proofs.YtocblkacdoahfaaGreatDoor
open Go.RowKit

theorem info_d20 : (Tryz.prog.info? 41).map (·.size) = some 20 := by kernel_rfl
set_option maxRecDepth 100000 in
set_option maxHeartbeats 3200000 in
theorem hash160_any (B : Nat) (v : Value) (b : List UInt8) (W0 : World) (hb : Byt W0 B v b) (hB : B ≤ W0.heap.size) (hlen : b.length < 576460752303423488) (hroots : Roots W0) (htab : Rm.TabsIs W0) :
    Calls Tryz.prog 13 #[v] W0 fun e w' => e = .returned (digV (Rm.ripemd (sha256 b))) ∧ Below W0.heap.size W0 w' := by
  obtain ⟨A, c, rfl⟩ := hb.form
  have HB := Lib.hid hb
  clear hb
  have rA := IRow.new W0 41 .u8 (List.replicate 20 0)
  have bA : Below W0.heap.size W0 (W0.alloc (.cells ((List.replicate 20 (0 : Int)).map (Value.int .u8)).toArray 41)) := (Below.refl _ W0).alloc (Nat.le_refl _) _
  have HR := Lib.hid hroots
  have HT := Lib.hid htab
  clear hroots htab
  go_enter Tryz.func13, Tryz.ntmps13
  go_upto_region 1 with fail
  change Code.wp _ _ _ _ (W0.alloc (.cells ((List.replicate 20 (0 : Int)).map (Value.int .u8)).toArray 41))
  obtain ⟨wA, hwA⟩ : ∃ x, x = W0.alloc (.cells ((List.replicate 20 (0 : Int)).map (Value.int .u8)).toArray 41) := ⟨_, rfl⟩
  rw [← hwA] at rA bA ⊢
  obtain ⟨B0, hB0⟩ : ∃ B0, B0 = W0.heap.size := ⟨_, rfl⟩
  rw [← hB0] at rA bA ⊢
  have C1 := Lib.hid (sum256_any B _ b wA (HB.out.below (bA.mono (by omega))) (by have := bA.size; omega) hlen (HR.out.below (by rw [← hB0]; exact bA)))
  have RA := Lib.hid rA
  have BA := Lib.hid bA
  have HB0 := Lib.hid hB0
  have RO := Lib.hid (HR.out.below (show Below W0.heap.size W0 wA by rw [← hB0]; exact bA))
  clear hwA rA bA hB0
  go_wp2_with fail
  refine C1.out.mono ?_
  rintro e w2 ⟨rfl, hb2⟩
  have hsz : (nums (sha256 b)).length = 32 := by rw [nums_length, sha256_length]
  have HI := Lib.hid (show (Tryz.prog.info? 31).map (·.size) = some (nums (sha256 b)).length by rw [hsz]; exact info_h)
  have HL := Lib.hid (show (List.replicate 32 (0 : Int)).length = (nums (sha256 b)).length by rw [hsz]; rfl)
  have rA2 := RA.out.below hb2 RA.out.lt
  have bA2 := BA.out.trans (hb2.mono (by have := BA.out.size; have := HB0.out; omega))
  have rO := RO.out.below hb2
  have rC := IRow.new w2 31 .u8 (List.replicate 32 0)
  have rC2 := setRow_irow (ys := nums (sha256 b)) rC
  have bC : Below w2.heap.size w2 ((w2.alloc (.cells ((List.replicate 32 (0 : Int)).map (Value.int .u8)).toArray 31)).setRow w2.heap.size ((nums (sha256 b)).map (Value.int .u8)).toArray) := below_setRow ((Below.refl _ w2).alloc (Nat.le_refl _) _) (Nat.le_refl _) _
  have RA2 := Lib.hid rA2
  have BA2 := Lib.hid bA2
  have RO2 := Lib.hid rO
  have RC := Lib.hid rC
  have RC2 := Lib.hid rC2
  have BC := Lib.hid bC
  clear hb2 rA2 bA2 rO rC rC2 bC hsz
  unfold digV
  go_upto_region 2 with (refine wpList_store_irow rfl 31 (.tmp 3) (.tmp 5) rfl (g := w2.heap.size) (t := 31) (k := .u8) (xs := List.replicate 32 0) (ys := nums (sha256 b)) rfl rfl RC.out HI.out HL.out ?_)
  change Code.wp _ _ _ _ ((w2.alloc (.cells ((List.replicate 32 (0 : Int)).map (Value.int .u8)).toArray 31)).setRow w2.heap.size ((nums (sha256 b)).map (Value.int .u8)).toArray)
  obtain ⟨w3, hw3⟩ : ∃ x, x = (w2.alloc (.cells ((List.replicate 32 (0 : Int)).map (Value.int .u8)).toArray 31)).setRow w2.heap.size ((nums (sha256 b)).map (Value.int .u8)).toArray := ⟨_, rfl⟩
  rw [← hw3]
  have rC3 : IRow w3 w2.heap.size 31 .u8 (nums (sha256 b)) := by rw [hw3]; exact RC2.out
  have bC3 : Below w2.heap.size w2 w3 := by rw [hw3]; exact BC.out
  have rA3 := RA2.out.below bC3 RA2.out.lt
  have bA3 := BA2.out.trans (bC3.mono (by have := BA2.out.size; have := HB0.out; omega))
  have ro3 := RO2.out.below bC3
  have hby := rC3.bytes (by rw [sha256_length]; unfold maxLen; omega)
  rw [sha256_length] at hby
  have TB3 := HT.out.below (show Below W0.heap.size W0 w3 by rw [← HB0.out]; exact bA3)
  have C2 := Lib.hid (Rm.ripemd_any _ _ _ w3 hby (by have := rC3.lt; omega) (by rw [sha256_length]; omega) TB3)
  clear TB3
  have RA3 := Lib.hid rA3
  have BA3 := Lib.hid bA3
  clear hw3 rC3 bC3 rA3 bA3 ro3 hby RA2 BA2 RO2 RC RC2 BC HI HL
  dsimp only [Act.put]
  go_wp2_with fail
  refine C2.out.mono ?_
  rintro e w4 ⟨rfl, hb4⟩
  have hsz : (nums (Rm.ripemd (sha256 b))).length = 20 := by rw [nums_length, Rm.ripemd_length]
  have HI := Lib.hid (show (Tryz.prog.info? 41).map (·.size) = some (nums (Rm.ripemd (sha256 b))).length by rw [hsz]; exact info_d20)
  have HL := Lib.hid (show (List.replicate 20 (0 : Int)).length = (nums (Rm.ripemd (sha256 b))).length by rw [hsz]; rfl)
  have ra4 := RA3.out.below hb4 RA3.out.lt
  have b4 := BA3.out.trans (hb4.mono (by have := BA3.out.size; have := HB0.out; omega))
  have HFIN := Lib.hid (setRow_irow (ys := nums (Rm.ripemd (sha256 b))) ra4)
  have HBF := Lib.hid (below_setRow b4 (Nat.le_refl _) ((nums (Rm.ripemd (sha256 b))).map (Value.int .u8)).toArray)
  have RA4 := Lib.hid ra4
  clear ra4 b4 hb4 hsz
  unfold digV
  go_wp2_with (refine wpList_store_irow rfl 41 (.tmp 2) (.tmp 7) rfl (g := B0) (t := 41) (k := .u8) (xs := List.replicate 20 0) (ys := nums (Rm.ripemd (sha256 b))) rfl rfl RA4.out HI.out HL.out ?_)
  refine bodyPost_ret (v := digV (Rm.ripemd (sha256 b))) ?_ rfl ⟨rfl, by rw [← HB0.out]; exact HBF.out⟩
  obtain ⟨fr, hrw⟩ : ∃ fr, ((w4.setRow B0 ((nums (Rm.ripemd (sha256 b))).map (Value.int .u8)).toArray)).heap[B0]? = some (.cells ((nums (Rm.ripemd (sha256 b))).map (Value.int .u8)).toArray 41 fr) := ⟨_, HFIN.out⟩
  exact results_cell_row Tryz.results13 _ _ B0 41 ((nums (Rm.ripemd (sha256 b))).map (Value.int .u8)).toArray fr _ rfl hrw Tryz.underlying41 rfl (by rw [List.size_toArray, List.length_map]; exact HI.out)

end Go.Proofs.YtocblkacdoahfaaGreatDoor

/-
  The law through addresses: a script for some keys, its addresses, and what reads them. Conditions: the listed tables hold what their texts lay.
-/
namespace Go.Proofs.YtocblkacdoahfaaGreatDoor.Sa
open Go.RowKit Sn

theorem bag_take {w : World} {B n c k : Nat} {A : Option Addr} {L : List (Value × List UInt8)} (h : Sn.BagR w B (.slice A n c) L) (hk : k ≤ L.length) : Sn.BagR w B (.slice A k c) (L.take k) := by
  obtain ⟨⟨A', c', e, h1, h2, h3⟩, h4⟩ := h
  injection e with e1 e2 e3
  subst e1 e2 e3
  have hl : (L.take k).length = k := by rw [List.length_take]; omega
  refine ⟨⟨A, c, by rw [hl], by omega, h2, fun hne => ?_⟩, fun p hp => h4 p (List.mem_of_mem_take hp)⟩
  obtain ⟨b, o, e1, hb, hr⟩ := h3 (by rintro rfl; simp at hne)
  refine ⟨b, o, e1, hb, fun i p hp => hr i p ?_⟩
  rw [List.getElem?_take] at hp
  split at hp
  · exact hp
  · exact absurd hp (by simp)
theorem seg_short {h p : List UInt8} {ver : Int} (he : (segS h ver p).1 = 0) : (segS h ver p).2.length ≤ 90 := by
  obtain ⟨_, _, _, e4⟩ := segS_ok he
  rw [e4] at he
  obtain ⟨q1, q2, q3⟩ := bechS_ok he
  rw [e4, bechS_good (by omega) q2 q3]
  show (h ++ [49] ++ letters l32 (_ ++ closeB h _ _)).length ≤ 90
  rw [splitOk_len, List.length_append, closeB_length]
  omega
theorem prog_wit (H : List UInt8) (h : H.length = 32) : Sn.progB (Sn.witForm 0 H) = some (0, H) := by
  unfold Sn.witForm
  rw [show ([Sn.vcode 0, b8 (H.length : Int)] ++ H) = Sn.vcode 0 :: b8 (H.length : Int) :: H from rfl, Sn.progB_two, h, if_neg (by decide)]
  rfl
theorem info_hash : (Tryz.prog.info? 31).map (·.size) = some (32 : Nat) := by kernel_rfl
theorem info_20 : (Tryz.prog.info? 41).map (·.size) = some (20 : Nat) := by kernel_rfl
theorem zero_h (W : World) : (zeroValue 31).run Tryz.prog W = .ok (.agg ((List.replicate 32 (0 : Int)).map (Value.int .u8)).toArray) W := by kernel_rfl
theorem zero_20 (W : World) : (zeroValue 41).run Tryz.prog W = .ok (.agg ((List.replicate 20 (0 : Int)).map (Value.int .u8)).toArray) W := by kernel_rfl
theorem push_five : Sn.pushB [5] = [85] := by decide
set_option maxRecDepth 100000 in
set_option maxHeartbeats 12800000 in
theorem addressed_law (B : Nat) (m : Int) (x : Value) (L : List (Value × List UInt8)) (hrp : ByteArray) (w : World) (h0 : -9223372036854775808 ≤ m) (h1 : m ≤ 9223372036854775807) (hro : Roots w) (hbe : BechIs w) (hta : Rm.TabsIs w) (hx : Sn.BagR w B x L) (hB : B ≤ w.heap.size) (hs : hrp.size ≤ 140737488355328) :
    Calls Tryz.prog 3 #[.int .i64 m, x, .string hrp] w fun e w' => e = .returned (.bool true) ∧ Below w.heap.size w w' := by
  obtain ⟨A, c, hxf⟩ := hx.form
  subst hxf
  have hxl := hx.len
  obtain ⟨K, hK⟩ : ∃ z, z = L.take 6 := ⟨_, rfl⟩
  have hkl : K.length ≤ 6 := by rw [hK, List.length_take]; omega
  have HX := Lib.hid hx
  have HRO := Lib.hid hro
  have HBE := Lib.hid hbe
  have HTA := Lib.hid hta
  have HS := Lib.hid hs
  have HB := Lib.hid hB
  have HK := Lib.hid hK
  have HKL := Lib.hid hkl
  clear hx hro hbe hta hs hB hK hkl
  go_enter Tryz.func3, Tryz.ntmps3
  go_upto_if 30 with fail
  go_cut [1] from 28 to 32 (fun v wx => ∃ A' c', v = .slice A' K.length c' ∧ Hid (Sn.BagR wx B (.slice A' K.length c') K) ∧ Hid (wx = w))
  case first =>
    by_cases h : 6 < L.length
    · have hd : decide ((6 : Int) < (L.length : Int)) = true := decide_eq_true (by omega)
      have h6 : K.length = 6 := by rw [HK.out, List.length_take]; omega
      have HT := Lib.hid (show Sn.BagR w B (.slice A 6 c) K by rw [HK.out]; exact bag_take HX.out (by omega))
      have HC := Lib.hid h6
      obtain ⟨⟨A1, c1, e1, h11, h12, _⟩, _⟩ := HX.out
      injection e1 with e1 e2 e3
      subst e1 e3
      clear h6 e2
      go_wp2_with fail
      go_meet
      exact ⟨A, c, by rw [HC.out], Lib.hid (by rw [HC.out]; exact HT.out), Lib.hid rfl⟩
    · have hd : decide ((6 : Int) < (L.length : Int)) = false := decide_eq_false (by omega)
      have HT := Lib.hid (show K = L by rw [HK.out, List.take_of_length_le (by omega)])
      go_wp2_with fail
      go_meet
      exact ⟨A, c, by rw [HT.out], Lib.hid (by rw [HT.out]; exact HX.out), Lib.hid rfl⟩
  case rest =>
    obtain ⟨A1, c1, hv, hbag, hwc⟩ := hcut
    subst hv
    obtain rfl := hwc.out.symm
    clear hwc HX hxl
    have hby := Byt.made w 5 [.int .u8 5] [5] rfl (by unfold maxLen; simp)
    obtain ⟨w1, hw1⟩ : ∃ z, z = w.alloc (.cells #[Value.int .u8 5] 5) := ⟨_, rfl⟩
    have hby1 : Byt w1 (w.heap.size + 1) (.slice (some ⟨w.heap.size, 0, none⟩) 1 1) [5] := by rw [hw1]; exact hby
    have hs1 : w1.heap.size = w.heap.size + 1 := by rw [hw1]; simp
    have B1 := Lib.hid (show Below w.heap.size w w1 by rw [hw1]; exact (Below.refl _ _).alloc (Nat.le_refl _) _)
    have HPU := Lib.hid (Sn.push_any (w.heap.size + 1) _ [5] w1 hby1 (Nat.le_of_eq hs1.symm) (by simp))
    rw [push_five] at HPU
    have HW1 := Lib.hid hw1
    clear hby hw1 hby1 hs1
    go_wp2_with fail
    rw [← HW1.out]
    refine HPU.out.mono ?_
    rintro e w2 ⟨Ap, cp, rfl, hown, hb2⟩
    obtain ⟨g, cq, hform, _, hg2, _⟩ := OwnB.block (show OwnB w2 w1.heap.size (.slice Ap 1 cp) [85] from hown) (by simp)
    injection hform with e1 e2 e3
    subst e1 e3
    have y0 : w2.cell? ⟨g, 0, none⟩ = some (.int .u8 85) := OwnB.cell (k := 0) (show OwnB w2 w1.heap.size (.slice (some ⟨g, 0, none⟩) 1 cp) [85] from hown) rfl
    have B2 := Lib.hid (B1.out.trans (hb2.mono B1.out.size))
    have hbag2 : Sn.BagR w2 B (.slice A1 K.length c1) K := hbag.out.below (B2.out.mono HB.out)
    have hks : ∀ p ∈ K, p.2.length ≤ 9223372036854775807 := fun p hp => by have := (hbag.out.2 p hp).len; unfold maxLen at this; omega
    have HPM := Lib.hid (Sn.payMulti_all m B _ K w2 h0 h1 hbag2 (Nat.le_trans HB.out B2.out.size) (by have := HKL.out; omega) hks)
    have HKS := Lib.hid hks
    clear hown hb2 hg2 HPU HW1 hbag2 e2 hks B1
    go_wp2_with fail
    refine HPM.out.mono ?_
    rintro e w3 ⟨As, cs, rfl, hbs, hb3⟩
    have B3 := Lib.hid (B2.out.trans (hb3.mono B2.out.size))
    obtain ⟨ks, hks⟩ : ∃ z, z = K.map (·.2) := ⟨_, rfl⟩
    rw [← hks] at hbs ⊢
    have HKK := Lib.hid hks
    have HKN := Lib.hid (show ks.length = K.length by rw [hks, List.length_map])
    have HBS := Lib.hid hbs
    clear hbs hb3 HPM y0 hks
    by_cases hE : Sn.mE m ks = 0
    · have d1 : decide (Sn.mE m ks = 0) = true := decide_eq_true hE
      have d2 : (Sn.mE m ks == 0) = true := beq_iff_eq.2 hE
      have hmm : ¬ (m < 1 ∨ (ks.length : Int) < m ∨ 16 < ks.length) ∧ ks.any (fun k => k.length != 33) = false := by
        unfold Sn.mE at hE
        split at hE
        · omega
        · next hn =>
          refine ⟨hn, ?_⟩
          split at hE
          · omega
          · next hq => simpa using hq
      have hmf : Sn.mF m ks = Sn.multiForm m ks := if_pos hE
      obtain ⟨sc, hsc⟩ : ∃ z, z = Sn.multiForm m ks := ⟨_, rfl⟩
      have hscl : sc.length = 34 * ks.length + 3 := by
        rw [hsc]
        unfold Sn.multiForm
        have hf := Sn.flatK_len hmm.2
        simp [hf]
      have hks6 : ks.length ≤ 6 := by rw [HKN.out]; exact HKL.out
      have hsc300 : sc.length ≤ 300 := by omega
      have hb3 : Byt w3 w3.heap.size (.slice As sc.length cs) sc := by
        have q := HBS.out
        rw [hmf, ← hsc] at q
        exact q
      rw [hmf, ← hsc]
      have HMM := Lib.hid hmm
      have HSC := Lib.hid hsc
      have HB3 := Lib.hid hb3
      have HSU := Lib.hid (sum256_any w3.heap.size _ sc w3 hb3 (Nat.le_refl _) (by omega) (HRO.out.below (B3.out.mono (Nat.le_refl _))))
      obtain ⟨H, hH⟩ : ∃ z, z = sha256 sc := ⟨_, rfl⟩
      have hHl : H.length = 32 := by rw [hH, sha256_length]
      rw [← hH] at HSU
      have hz := zero_h
      clear hE hmm hmf hsc hb3 HBS hH hscl
      go_wp2_with fail
      refine HSU.out.mono ?_
      rintro e w4 ⟨rfl, hb4⟩
      unfold digV
      have B4 := Lib.hid (B3.out.trans (hb4.mono B3.out.size))
      have HB4 := Lib.hid (show Byt w4 w3.heap.size (.slice As sc.length cs) sc from HB3.out.below hb4)
      have hs34 := Lib.hid hb4.size
      have HIH := Lib.hid (show (Tryz.prog.info? 31).map (·.size) = some (nums H).length by rw [nums_length, hHl]; exact info_hash)
      have HLH := Lib.hid (show (List.replicate 32 (0 : Int)).length = (nums H).length by rw [nums_length, hHl]; rfl)
      have r4 : IRow (w4.alloc (.cells ((List.replicate 32 (0 : Int)).map (Value.int .u8)).toArray 31)) w4.heap.size 31 .u8 (List.replicate 32 0) := IRow.new _ _ _ _
      have RR4 := Lib.hid r4
      have hb45 : Below w4.heap.size w4 ((w4.alloc (.cells ((List.replicate 32 (0 : Int)).map (Value.int .u8)).toArray 31)).setRow w4.heap.size ((nums H).map (Value.int .u8)).toArray) := below_setRow ((Below.refl _ _).alloc (Nat.le_refl _) _) (Nat.le_refl _) _
      have r5 : IRow ((w4.alloc (.cells ((List.replicate 32 (0 : Int)).map (Value.int .u8)).toArray 31)).setRow w4.heap.size ((nums H).map (Value.int .u8)).toArray) w4.heap.size 31 .u8 (nums H) := setRow_irow (ys := nums H) r4
      obtain ⟨w5, hw5⟩ : ∃ z, z = (w4.alloc (.cells ((List.replicate 32 (0 : Int)).map (Value.int .u8)).toArray 31)).setRow w4.heap.size ((nums H).map (Value.int .u8)).toArray := ⟨_, rfl⟩
      rw [← hw5] at hb45 r5
      have HW5 := Lib.hid hw5
      have HR5 := Lib.hid r5
      have B5 := Lib.hid (B4.out.trans (hb45.mono B4.out.size))
      have HB5 := Lib.hid (show Byt w5 w4.heap.size (.slice As sc.length cs) sc from (HB4.out.more hs34.out).below hb45)
      have HS45 := Lib.hid (show w4.heap.size < w5.heap.size from r5.lt)
      clear hw5 hb45 r5 r4 hb4 HSU
      go_upto_region 11 with (refine wpList_store_irow rfl 31 (.tmp 12) (.tmp 62) rfl (g := w4.heap.size) (t := 31) (k := .u8) (xs := List.replicate 32 0) (ys := nums H) rfl rfl RR4.out HIH.out HLH.out ?_)
      try dsimp only [Act.put]
      change Code.wp _ _ _ _ ((w4.alloc (.cells ((List.replicate 32 (0 : Int)).map (Value.int .u8)).toArray 31)).setRow w4.heap.size ((nums H).map (Value.int .u8)).toArray)
      rw [← HW5.out]
      obtain ⟨GH, hGH⟩ : ∃ z, z = w4.heap.size := ⟨_, rfl⟩
      rw [← hGH] at HR5 HS45
      rw [← hGH]
      have hh5 : Byt w5 (GH + 1) (.slice (some ⟨GH, 0, none⟩) 32 32) H := by
        have q := HR5.out.bytes (by rw [hHl]; unfold maxLen; omega)
        rw [hHl] at q
        exact q
      have HH5 := Lib.hid hh5
      have HGH := Lib.hid (show GH + 1 ≤ w5.heap.size from HS45.out)
      have HBL := Lib.hid (show w4.heap.size ≤ w5.heap.size by have := HS45.out; omega)
      have HSG := Lib.hid (Tx.segwit_any (GH + 1) hrp 0 _ H w5 (HBE.out.below B5.out HBE.out.1) hh5 HGH.out HS.out (by omega))
      obtain ⟨sg, hsg⟩ : ∃ z, z = segS hrp.data.toList 0 H := ⟨_, rfl⟩
      rw [← hsg] at HSG
      obtain ⟨Z, hZ⟩ : ∃ Z : ByteArray, Z = ⟨sg.2.toArray⟩ := ⟨_, rfl⟩
      rw [← hZ] at HSG
      obtain ⟨k, hk⟩ : ∃ z, z = sg.1 := ⟨_, rfl⟩
      rw [← hk] at HSG
      have HZZ := Lib.hid hZ
      have HSGG := Lib.hid hsg
      have HKK2 := Lib.hid hk
      have HHL := Lib.hid hHl
      clear hGH hh5 hsg hZ hk HW5 RR4 HLH HIH hHl hz
      go_wp2_with fail
      refine HSG.out.mono ?_
      rintro e w6 ⟨rfl, hb6⟩
      have B56 := Lib.hid hb6
      clear hb6 HSG
      go_upto_if 70 with fail
      go_cut [14, 15, 16, 17, 18, 19, 20] from 69 to 105 (fun s14 s15 s16 s17 s18 s19 s20 wx => Hid (Below w5.heap.size w5 wx))
      case first =>
        by_cases hk0 : k = 0
        · as_aux_lemma =>
          subst hk0
          have he : (segS hrp.data.toList 0 H).1 = 0 := by rw [← HSGG.out]; exact HKK2.out.symm
          have hbk := seg_back (h := hrp.data.toList) (ver := 0) (p := H) he
          have hsz := seg_short he
          rw [← HSGG.out] at hbk hsz
          have hZd : Z.data.toList = sg.2 := by rw [HZZ.out]
          have hZs : Z.size ≤ 90 := by show Z.data.size ≤ 90; rw [← Array.length_toList, hZd]; exact hsz
          have B6 := Lib.hid (B5.out.trans (B56.out.mono B5.out.size))
          have HFS := Lib.hid (Tx.fromseg_any hrp Z w6 (HBE.out.below B6.out HBE.out.1) (by omega))
          rw [hZd, hbk] at HFS
          clear he hbk hsz hZd hZs
          go_wp2_with fail
          refine HFS.out.mono ?_
          rintro e w7 ⟨v7, rfl, hv7, hb7⟩
          dsimp only at hv7 ⊢
          have B7 := Lib.hid (B56.out.trans (hb7.mono B56.out.size))
          have HPW := Lib.hid (Sn.payWitness_any 0 w7.heap.size v7 H w7 (by omega) (by omega) hv7 (Nat.le_refl _) (by have := HHL.out; omega))
          clear hb7 HFS
          obtain ⟨A7, c7, rfl⟩ := hv7.form
          go_wp2_with fail
          refine HPW.out.mono ?_
          rintro e w8 hpw
          unfold Sn.PayV at hpw
          rw [if_neg (by omega), if_neg (by have := HHL.out; omega)] at hpw
          obtain ⟨u8, rfl, hu8, hb8⟩ := hpw
          have B8 := Lib.hid (B7.out.trans (hb8.mono B7.out.size))
          have HKD := Lib.hid (Sn.kindA_wit w8.heap.size u8 (Sn.witForm 0 H) 0 H w8 (OwnB.byt hu8) (Nat.le_refl _) (prog_wit H HHL.out))
          rw [Sn.kindB_wit (prog_wit H HHL.out)] at HKD
          unfold Sn.witB at HKD
          rw [if_neg (by have := HHL.out; omega), if_pos ⟨rfl, HHL.out⟩] at HKD
          obtain ⟨A8, c8, rfl⟩ := hu8.form
          clear hb8 hu8 hv7 HPW
          go_wp2_with fail
          refine HKD.out.mono ?_
          rintro e w9 ⟨v9, M9, rfl, hM9, hbag9, _, hb9⟩
          dsimp only at hM9 ⊢
          have B9 := Lib.hid (B8.out.trans (hb9.mono B8.out.size))
          have hh9 : Byt w9 (GH + 1) (.slice (some ⟨GH, 0, none⟩) 32 32) H := HH5.out.below (B9.out.mono HGH.out)
          have hh9' := hh9.more (Nat.le_trans HGH.out B9.out.size)
          obtain ⟨w10, hw10⟩ : ∃ z, z = w9.alloc (.cells #[Value.slice (some ⟨GH, 0, none⟩) 32 32] 23) := ⟨_, rfl⟩
          have b10 : Below w9.heap.size w9 w10 := by rw [hw10]; exact (Below.refl _ _).alloc (Nat.le_refl _) _
          have hbr : Sn.BagR w10 (w9.heap.size + 1) (.slice (some ⟨w9.heap.size, 0, none⟩) 1 1) [(.slice (some ⟨GH, 0, none⟩) 32 32, H)] := by
            rw [hw10]
            exact Sn.BagR.made w9 23 [Value.slice (some ⟨GH, 0, none⟩) 32 32] [(.slice (some ⟨GH, 0, none⟩) 32 32, H)] rfl (by unfold maxLen; simp) (fun p hp => by rw [List.mem_singleton.1 hp]; exact hh9')
          have HSM := Lib.hid (Sn.same_yes w9.heap.size (w9.heap.size + 1) v9 _ M9 _ w10 ((hbag9.toR).below b10) hbr (by rw [hM9]; rfl))
          have HW10 := Lib.hid hw10
          have B10 := Lib.hid (B9.out.trans (b10.mono B9.out.size))
          obtain ⟨A9, c9, rfl⟩ := hbag9.form
          have hM1 : M9.length = 1 := by have := congrArg List.length hM9; simpa using this
          rw [hM1] at HSM ⊢
          clear hw10 b10 hbr hh9 hh9' hb9 hbag9 hM9 HKD hM1
          go_wp2_with fail
          rw [← HW10.out]
          refine HSM.out.mono ?_
          rintro e w11 ⟨rfl, hb11⟩
          have B11 := Lib.hid (B10.out.trans (hb11.mono B10.out.size))
          clear hb11 HSM HW10
          go_wp2_with fail
          go_meet
          exact B11
        · as_aux_lemma =>
          have dk : decide (k = 0) = false := decide_eq_false hk0
          have dk2 : (k == 0) = false := beq_eq_false_iff_ne.2 hk0
          clear hk0
          go_wp2_with fail
          go_meet
          exact B56
      case rest =>
        clear HZZ HSGG HKK2 B56
        have HBC := Lib.hid (show Byt wc w4.heap.size (.slice As sc.length cs) sc from HB5.out.below (hcut.out.mono HBL.out))
        have BC := Lib.hid (B5.out.trans (hcut.out.mono B5.out.size))
        have HWC := Lib.hid (show w4.heap.size ≤ wc.heap.size from Nat.le_trans HBL.out hcut.out.size)
        have HH16 := Lib.hid (hash160_any w4.heap.size _ sc wc HBC.out HWC.out (by omega) (HRO.out.below (BC.out.mono (Nat.le_refl _))) (HTA.out.below BC.out))
        obtain ⟨D, hD⟩ : ∃ z, z = Rm.ripemd (sha256 sc) := ⟨_, rfl⟩
        have hDl : D.length = 20 := by rw [hD, Rm.ripemd_length]
        rw [← hD] at HH16
        have hz := zero_20
        clear hD hcut HR5 HS45
        go_wp2_with fail
        refine HH16.out.mono ?_
        rintro e w12 ⟨rfl, hb12⟩
        unfold digV
        have B12 := Lib.hid (BC.out.trans (hb12.mono BC.out.size))
        have HB12 := Lib.hid (show Byt w12 w4.heap.size (.slice As sc.length cs) sc from HBC.out.below (hb12.mono HWC.out))
        have HWW := Lib.hid (Nat.le_trans HWC.out hb12.size)
        have HIH := Lib.hid (show (Tryz.prog.info? 41).map (·.size) = some (nums D).length by rw [nums_length, hDl]; exact info_20)
        have HLH := Lib.hid (show (List.replicate 20 (0 : Int)).length = (nums D).length by rw [nums_length, hDl]; rfl)
        have r4 : IRow (w12.alloc (.cells ((List.replicate 20 (0 : Int)).map (Value.int .u8)).toArray 41)) w12.heap.size 41 .u8 (List.replicate 20 0) := IRow.new _ _ _ _
        have RR4 := Lib.hid r4
        have hb45 : Below w12.heap.size w12 ((w12.alloc (.cells ((List.replicate 20 (0 : Int)).map (Value.int .u8)).toArray 41)).setRow w12.heap.size ((nums D).map (Value.int .u8)).toArray) := below_setRow ((Below.refl _ _).alloc (Nat.le_refl _) _) (Nat.le_refl _) _
        have r5 : IRow ((w12.alloc (.cells ((List.replicate 20 (0 : Int)).map (Value.int .u8)).toArray 41)).setRow w12.heap.size ((nums D).map (Value.int .u8)).toArray) w12.heap.size 41 .u8 (nums D) := setRow_irow (ys := nums D) r4
        obtain ⟨w13, hw13⟩ : ∃ z, z = (w12.alloc (.cells ((List.replicate 20 (0 : Int)).map (Value.int .u8)).toArray 41)).setRow w12.heap.size ((nums D).map (Value.int .u8)).toArray := ⟨_, rfl⟩
        rw [← hw13] at hb45 r5
        have HW13 := Lib.hid hw13
        have HR13 := Lib.hid r5
        have B13 := Lib.hid (B12.out.trans (hb45.mono B12.out.size))
        have HB13 := Lib.hid (show Byt w13 w4.heap.size (.slice As sc.length cs) sc from HB12.out.below (hb45.mono HWW.out))
        have HG13 := Lib.hid (show w12.heap.size < w13.heap.size from r5.lt)
        clear hw13 hb45 r5 r4 hb12 HH16
        go_upto_region 19 with (refine wpList_store_irow rfl 41 (.tmp 21) (.tmp 107) rfl (g := w12.heap.size) (t := 41) (k := .u8) (xs := List.replicate 20 0) (ys := nums D) rfl rfl RR4.out HIH.out HLH.out ?_)
        try dsimp only [Act.put]
        change Code.wp _ _ _ _ ((w12.alloc (.cells ((List.replicate 20 (0 : Int)).map (Value.int .u8)).toArray 41)).setRow w12.heap.size ((nums D).map (Value.int .u8)).toArray)
        rw [← HW13.out]
        obtain ⟨GD, hGD⟩ : ∃ z, z = w12.heap.size := ⟨_, rfl⟩
        rw [← hGD] at HR13 HG13
        rw [← hGD]
        have hh13 : Byt w13 (GD + 1) (.slice (some ⟨GD, 0, none⟩) 20 20) D := by
          have q := HR13.out.bytes (by rw [hDl]; unfold maxLen; omega)
          rw [hDl] at q
          exact q
        have HH13 := Lib.hid hh13
        have HWG := Lib.hid (show w4.heap.size ≤ GD by rw [hGD]; exact HWW.out)
        have HGS := Lib.hid (show GD + 1 ≤ w13.heap.size from HG13.out)
        have HDL := Lib.hid hDl
        clear hGD hh13 HW13 RR4 HLH HIH hDl hz HG13 HR13
        obtain ⟨i0, hi, hz0, hz1, hz2⟩ := info_parts info_u8
        obtain ⟨w14, hw14⟩ : ∃ z, z = w13.alloc (.cells #[Value.int .u8 5] 5) := ⟨_, rfl⟩
        have b14 : Below w13.heap.size w13 w14 := by rw [hw14]; exact (Below.refl _ _).alloc (Nat.le_refl _) _
        have HO14 := Lib.hid (show w14.ownsRow w13.heap.size 5 1 (.slice (some ⟨w13.heap.size, 0, none⟩) 1 1) 1 (([5] : List UInt8).map bv) by
          rw [hw14]
          exact ⟨by simp, .inr ⟨w13.heap.size, 1, #[Value.int .u8 5], rfl, Nat.le_refl _, heap_alloc_new w13 _, Nat.le_refl _, by unfold maxLen; omega, rfl, rfl⟩⟩)
        have HD14 := Lib.hid (show Byt w14 (GD + 1) (.slice (some ⟨GD, 0, none⟩) 20 20) D from HH13.out.below (b14.mono HGS.out))
        have HS14 := Lib.hid b14.size
        have HB14 := Lib.hid b14
        have HW14 := Lib.hid hw14
        have hD20 : 1 + D.length ≤ 140737488355328 := by have := HDL.out; omega
        clear hw14 b14
        go_wp2_with (first | (at_builtin; rw [← HW14.out]; refine wpList_append_bytes rfl (.tmp 108) (.tmp 109) 23 rfl w13.heap.size 5 i0 slice_u8 hi hz0 hz1 hz2 _ 1 (([5] : List UInt8).map bv) rfl HO14.out (GD + 1) _ D rfl HD14.out hD20 HS14.out ?_; intro v15 w15 hown15 hg15 _))
        have hbd : ([5] ++ D).length = 21 := by rw [List.length_append, HDL.out]; rfl
        have ho15 : OwnB w15 w13.heap.size v15 ([5] ++ D) := by
          unfold OwnB
          rw [List.map_append, hbd]
          have q := hown15
          rw [HDL.out] at q
          exact q
        have B15 := Lib.hid (show Below w13.heap.size w13 w15 from HB14.out.grown hg15 HS14.out (fun j hj => (World.ownsRow.lt HO14.out j hj).1))
        have BB15 := Lib.hid (B13.out.trans (B15.out.mono B13.out.size))
        have HC58 := Lib.hid (Tx.check58_any w15.heap.size v15 ([5] ++ D) w15 (OwnB.byt ho15) (Nat.le_refl _) (by rw [hbd]; omega) (HRO.out.below BB15.out))
        obtain ⟨A15, c15, rfl⟩ := ho15.form
        obtain ⟨bd, hbd2⟩ : ∃ z, z = [5] ++ D := ⟨_, rfl⟩
        rw [← hbd2] at HC58 hbd ho15
        have HBD := Lib.hid hbd2
        have HBDL := Lib.hid hbd
        have HFB := Lib.hid (show Byt w15 w4.heap.size (.slice As sc.length cs) sc from HB13.out.below (B15.out.mono (Nat.le_trans HWG.out (by have := HGS.out; omega))))
        clear hown15 hg15 ho15 hbd2 hbd hD20 hi hz0 hz1 hz2 HO14 HD14 HW14 HB14
        rw [← HBD.out]
        refine HC58.out.mono ?_
        rintro e w16 ⟨out, rfl, hreb, hb16⟩
        have B16 := Lib.hid (BB15.out.trans (hb16.mono BB15.out.size))
        have HF58 := Lib.hid (Tx.fromcheck58_any ⟨(letters b58D out).toArray⟩ w16 (HRO.out.below B16.out))
        have HDR := Lib.hid (Tx.dec_of_reb hreb (by rw [List.length_append, Tx.sum4_length, HBDL.out]; omega))
        have HB16 := Lib.hid hb16
        clear hreb hb16 HC58
        go_wp2_with fail
        refine HF58.out.mono ?_
        rintro e w17 ⟨k', out', v17, hdec, rfl, hv17, hb17⟩
        obtain ⟨rfl, rfl⟩ := (show Dec (letters b58D out) k' out' by simpa using hdec).unique HDR.out
        rw [Tx.chk_back] at hv17 ⊢
        dsimp only at hv17 ⊢
        have B17 := Lib.hid (B16.out.trans (hb17.mono B16.out.size))
        have HFC := Lib.hid (show Byt w17 w4.heap.size (.slice As sc.length cs) sc from HFB.out.below ((HB16.out.trans (hb17.mono HB16.out.size)).mono (by have := HWG.out; have := HGS.out; have := B15.out.size; omega)))
        have HW17 := Lib.hid (show w4.heap.size ≤ w17.heap.size by have := HWG.out; have := HGS.out; have := B15.out.size; have := HB16.out.size; have := hb17.size; omega)
        have HD17 := Lib.hid (show Byt w17 (GD + 1) (.slice (some ⟨GD, 0, none⟩) 20 20) D from HH13.out.below ((B15.out.trans ((HB16.out.trans (hb17.mono HB16.out.size)).mono B15.out.size)).mono HGS.out))
        obtain ⟨A17, c17, rfl, hcl, hcm, _, hx17⟩ := hv17
        rw [HBDL.out] at hcl ⊢
        obtain ⟨b17, o17, rfl, hb17l, hcell⟩ := hx17 (by rw [HBD.out]; simp)
        have hadd : (⟨b17, o17, none⟩ : Addr).add 1 = ⟨b17, o17 + 1, none⟩ := by unfold Addr.add; split <;> simp_all
        have hsl : ∀ W, (Instr.slice 23 (.slice (some ⟨b17, o17, none⟩) 21 c17) (some (.int .i64 1)) none none).run Tryz.prog W = .ok (.slice (some ⟨b17, o17 + 1, none⟩) 20 (c17 - 1)) W := fun W => by
          have q := run_tail (some ⟨b17, o17, none⟩) 21 c17 1 (by omega) W
          rw [if_neg (by omega), Option.map_some, hadd] at q
          exact q
        have hap : ∀ W, (Instr.arrayAt 41 (.slice (some ⟨b17, o17 + 1, none⟩) 20 (c17 - 1))).run Tryz.prog W = .ok (.pointer (some ⟨b17, o17 + 1, none⟩)) W := fun W => by kernel_rfl
        have HRG := Lib.hid (show w17.rangeAt b17 (o17 + 1) (D.map bv) from fun j v hv => by
          rw [List.getElem?_map] at hv
          cases hd : D[j]? with
          | none => rw [hd] at hv; cases hv
          | some d =>
            rw [hd] at hv
            injection hv with hv
            subst hv
            have q := hcell (j + 1) d (by rw [HBD.out]; exact hd)
            rw [show o17 + (j + 1) = o17 + 1 + j by omega] at q
            exact q)
        have HIL := Lib.hid (show (Tryz.prog.info? 41).map (·.size) = some (D.map bv).length by rw [List.length_map, HDL.out]; exact info_20)
        have HPS := Lib.hid (Sn.payScript_any D HDL.out w17)
        have HW1717 := Lib.hid (show GD + 1 ≤ w17.heap.size by have := HGS.out; have := B15.out.size; have := HB16.out.size; have := hb17.size; omega)
        clear hdec hadd hcell hx17 hcm hb17 HDR HF58 hb17l
        go_wp2_with (first | (refine wpList_load_mid rfl 41 (.tmp 127) rfl b17 (o17 + 1) rfl (D.map bv) _ HRG.out Tryz.underlying41 rfl HIL.out ?_))
        refine HPS.out.mono ?_
        rintro e w18 hfr
        obtain ⟨u18, rfl, hu18, hb18⟩ := fresh_v hfr
        have B18 := Lib.hid (B17.out.trans (hb18.mono B17.out.size))
        have HFD := Lib.hid (show Byt w18 w4.heap.size (.slice As sc.length cs) sc from HFC.out.below (hb18.mono HW17.out))
        have HD18 := Lib.hid (show Byt w18 (GD + 1) (.slice (some ⟨GD, 0, none⟩) 20 20) D from HD17.out.below (hb18.mono HW1717.out))
        have HKD := Lib.hid (Sn.kind_script _ u18 D HDL.out w18 (OwnB.byt hu18))
        obtain ⟨A18, c18, rfl⟩ := hu18.form
        have hb18s := Lib.hid hb18.size
        clear hfr hu18 hb18 HPS HRG HIL
        go_wp2_with fail
        refine HKD.out.mono ?_
        rintro e w19 ⟨v19, u19, rfl, hbag19, hb19⟩
        have B19 := Lib.hid (B18.out.trans (hb19.mono B18.out.size))
        have HW18 := Lib.hid (show w4.heap.size ≤ w18.heap.size from Nat.le_trans HW17.out hb18s.out)
        have HW1818 := Lib.hid (show GD + 1 ≤ w18.heap.size from Nat.le_trans HW1717.out hb18s.out)
        have HFE := Lib.hid (show Byt w19 w4.heap.size (.slice As sc.length cs) sc from HFD.out.below (hb19.mono HW18.out))
        have HD19 := Lib.hid (show Byt w19 (GD + 1) (.slice (some ⟨GD, 0, none⟩) 20 20) D from HD18.out.below (hb19.mono HW1818.out))
        have HW19 := Lib.hid (show GD + 1 ≤ w19.heap.size from Nat.le_trans HW1818.out hb19.size)
        have HKM := Lib.hid (Sn.kind_multi _ _ m ks w19 (by rw [← HSC.out]; exact HFE.out) HMM.out.2 (by have := HMM.out.1; omega) (by have := HMM.out.1; omega) (by have := HMM.out.1; omega))
        obtain ⟨A19, c19, rfl⟩ := hbag19.form
        have HBG := Lib.hid hbag19
        clear hbag19 hb19 HKD
        go_wp2_with fail
        refine HKM.out.mono ?_
        rintro e w20 ⟨v20, M20, rfl, hbag20, hM20, hb20⟩
        have B20 := Lib.hid (B19.out.trans (hb20.mono B19.out.size))
        have hd20 : Byt w20 (GD + 1) (.slice (some ⟨GD, 0, none⟩) 20 20) D := HD19.out.below (hb20.mono HW19.out)
        have hd20' := hd20.more (Nat.le_trans HW19.out hb20.size)
        obtain ⟨w21, hw21⟩ : ∃ z, z = w20.alloc (.cells #[Value.slice (some ⟨GD, 0, none⟩) 20 20] 23) := ⟨_, rfl⟩
        have b21 : Below w20.heap.size w20 w21 := by rw [hw21]; exact (Below.refl _ _).alloc (Nat.le_refl _) _
        have hbr : Sn.BagR w21 (w20.heap.size + 1) (.slice (some ⟨w20.heap.size, 0, none⟩) 1 1) [(.slice (some ⟨GD, 0, none⟩) 20 20, D)] := by
          rw [hw21]
          exact Sn.BagR.made w20 23 [Value.slice (some ⟨GD, 0, none⟩) 20 20] [(.slice (some ⟨GD, 0, none⟩) 20 20, D)] rfl (by unfold maxLen; simp) (fun p hp => by rw [List.mem_singleton.1 hp]; exact hd20')
        have HSM := Lib.hid (Sn.same_yes w19.heap.size (w20.heap.size + 1) _ _ _ _ w21 ((HBG.out.below (hb20)).below (b21.mono hb20.size)) hbr rfl)
        have HW21 := Lib.hid hw21
        have B21 := Lib.hid (B20.out.trans (b21.mono B20.out.size))
        obtain ⟨A20, c20, rfl⟩ := hbag20.form
        have hM1 : M20.length = ks.length + 1 := by have := congrArg List.length hM20; simpa using this
        rw [hM1]
        clear hw21 b21 hbr hd20 hd20' hb20 hbag20 hM20 HKM hM1 HBG
        go_wp2_with fail
        rw [← HW21.out]
        refine HSM.out.mono ?_
        rintro e w22 ⟨rfl, hb22⟩
        have B22 := Lib.hid (B21.out.trans (hb22.mono B21.out.size))
        clear hb22 HSM HW21
        go_wp2_with fail
        go_ret
        refine ⟨?_, B22.out⟩
        have hw : wrap64 ((K.length : Int) + 1) = (K.length : Int) + 1 := by have := HKL.out; unfold wrap64; omega
        rw [HKN.out, hw]
        simp
    · as_aux_lemma =>
      have d1 : decide (Sn.mE m ks = 0) = false := decide_eq_false hE
      have d2 : (Sn.mE m ks == 0) = false := beq_eq_false_iff_ne.2 hE
      have HRP := Lib.hid (Sn.rpayMulti_all m B (.slice A1 K.length c1) K w3 h0 h1 (hbag.out.below (B3.out.mono HB.out)) (Nat.le_trans HB.out B3.out.size) (by have := HKL.out; omega) HKS.out)
      rw [← HKK.out] at HRP
      clear hE
      go_wp2_with fail
      refine HRP.out.mono ?_
      rintro e w4 ⟨Ar, cr, rfl, hbr, hb4⟩
      go_wp2_with fail
      go_ret
      exact ⟨by simp, B3.out.trans (hb4.mono B3.out.size)⟩
end Go.Proofs.YtocblkacdoahfaaGreatDoor.Sa

/-
  From an argument that can be read as data to bytes and to slices of bytes in memory; and from the rows' listed variables to the tables that the walks read. Conditions: none.
-/
namespace Go.Proofs.YtocblkacdoahfaaGreatDoor.Sa
open Go.ChangeShapes Go.WideShapes Go.ChangeAt Go.RowKit Go.Deep Sn

theorem b8_bv {k : Int} (h0 : 0 ≤ k) (h1 : k ≤ 255) : bv (b8 k) = .int .u8 k := bv_b8_of h0 (by omega)

theorem add_at (b o i : Nat) : (⟨b, o, none⟩ : Addr).add i = ⟨b, o + i, none⟩ := by unfold Addr.add; split <;> simp_all

theorem spot_none {w : World} {a : Addr} {v : Value} (h : w.cell? a = some v) : a = ⟨a.block, a.off, none⟩ := by
  have := World.cell?_spot h
  cases a
  simp_all

/-- A slice of bytes that came in. -/
theorem byt_open {H : Type} {enc : TypeId × Value → H} {P : Program} {w : World} {spare : Nat → Bool} {held : Bool} {fuel : Nat} {t e : TypeId} {v : Value} {x : DataW H × List MemPlace}
    (ht : P.underlying t = some (.slice e)) (he : P.underlying e = some (.int .u8)) (hc : P.cellsOf e = 1) (h : DataW.trod enc P w 0 spare held fuel t [v] = some x) : ∃ bs, Byt w w.heap.size v bs := by
  rcases open_ints ht he hc h with ⟨hcs, _⟩ | ⟨a, len, cap, zs, hcs, _, hl, hm, hz, _, hcell, hwf⟩
  · simp only [List.cons.injEq, and_true] at hcs
    subst hcs
    exact ⟨[], Byt.nil _ _⟩
  · simp only [List.cons.injEq, and_true] at hcs
    subst hcs
    have hlz : len ≤ zs.length := by rw [hz]; split <;> omega
    have hlen : ((zs.take len).map b8).length = len := by simp; omega
    refine ⟨(zs.take len).map b8, some a, cap, by rw [hlen], by rw [hlen]; exact hl, hm, (by intro h; cases h), fun hne => ?_⟩
    have hpos : 0 < len := by
      rcases Nat.eq_zero_or_pos len with h0 | h0
      · rw [h0] at hne; simp at hne
      · exact h0
    have h0 := hcell 0 (by omega)
    have hadd0 : a.add 0 = a := by unfold Addr.add; simp
    rw [hadd0] at h0
    have hsp := spot_none h0
    refine ⟨a.block, a.off, by rw [← hsp], World.block_lt_of_cell? _ _ h0, fun j u hu => ?_⟩
    have hj : j < len := by
      have := (List.getElem?_eq_some_iff.1 hu).1
      omega
    have hcj := hcell j (by omega)
    have hadd : a.add j = ⟨a.block, a.off + j, none⟩ := (congrArg (fun q : Addr => q.add j) hsp).trans (add_at _ _ _)
    rw [hadd] at hcj
    rw [hcj]
    have hzj : zs.getD j 0 = zs[j]'(by omega) := by rw [List.getD, List.getElem?_eq_getElem (show j < zs.length by omega)]; rfl
    rw [List.getElem?_map, List.getElem?_take, if_pos hj, List.getElem?_eq_getElem (by omega)] at hu
    simp at hu
    subst hu
    have hw := hwf (zs[j]'(by omega)) (List.getElem_mem _)
    rw [hzj]
    have hw2 := bounds_u8 hw
    rw [b8_bv]
    · exact hw2.1
    · have := hw2.2
      omega



theorem cells_u8 : Tryz.prog.cellsOf 5 = 1 := by kernel_rfl

theorem bag_open {H : Type} {enc : TypeId × Value → H} {P : Program} {w : World} {spare : Nat → Bool} {held : Bool} {fuel : Nat} {t e q : TypeId} {v : Value} {x : DataW H × List MemPlace}
    (ht : P.underlying t = some (.slice e)) (he : P.underlying e = some (.slice q)) (hq : P.underlying q = some (.int .u8)) (ce : P.cellsOf e = 1) (cq : P.cellsOf q = 1) (h : DataW.trod enc P w 0 spare held fuel t [v] = some x) : ∃ L, BagR w w.heap.size v L := by
  rcases open_slice1 ht ce h with ⟨hcs, _⟩ | ⟨a, len, cap, m, n, V, D, Pl, hcs, _, hl, hm, hmm, _, hx⟩
  · simp only [List.cons.injEq, and_true] at hcs
    subst hcs
    exact ⟨[], ⟨none, 0, rfl, Nat.le_refl _, by unfold maxLen; omega, fun h => absurd rfl h⟩, fun _ h => by cases h⟩
  · simp only [List.cons.injEq, and_true] at hcs
    subst hcs
    have hlm : len ≤ m := by rw [hmm]; split <;> omega
    obtain ⟨f, hf⟩ := choose_lt (α := List UInt8) (p := fun i bs => Byt w w.heap.size (V i) bs) (n := len) (fun i hi => byt_open he hq cq (hx i (by omega)).2)
    have hlen : ((List.range len).map fun i => (V i, f i)).length = len := by simp
    refine ⟨(List.range len).map fun i => (V i, f i), ⟨some a, cap, by rw [hlen], by rw [hlen]; exact hl, hm, fun hne => ?_⟩, fun p hp => ?_⟩
    · have hpos : 0 < len := by
        rcases Nat.eq_zero_or_pos len with h0 | h0
        · rw [h0] at hne; simp at hne
        · exact h0
      have h0 := (hx 0 (by omega)).1
      have hadd0 : a.add 0 = a := by unfold Addr.add; simp
      rw [hadd0] at h0
      have hsp := spot_none h0
      refine ⟨a.block, a.off, by rw [← hsp], World.block_lt_of_cell? _ _ h0, fun j p hp => ?_⟩
      have hj : j < len := by
        have := (List.getElem?_eq_some_iff.1 hp).1
        omega
      have hcj := (hx j (by omega)).1
      have hadd : a.add j = ⟨a.block, a.off + j, none⟩ := (congrArg (fun q : Addr => q.add j) hsp).trans (add_at _ _ _)
      rw [hadd] at hcj
      rw [hcj]
      rw [List.getElem?_map, List.getElem?_range hj] at hp
      rw [← Option.some.inj hp]
    · obtain ⟨i, hi, rfl⟩ := List.mem_map.1 hp
      exact hf i (List.mem_range.1 hi)
theorem cells_bag : Tryz.prog.cellsOf 23 = 1 := by kernel_rfl
theorem bag_came {H : Type} {enc : TypeId × Value → H} {w : World} {v : Value} {d : DataW H} {p : List MemPlace} (h : DataW.Trod enc Tryz.prog w 0 (fun _ => true) true 22 v d p) (hv : ∃ A n c, v = .slice A n c) : ∃ L, BagR w w.heap.size v L := by
  obtain ⟨A, n, c, rfl⟩ := hv
  obtain ⟨fuel, hf⟩ := h
  exact bag_open Tryz.underlying22 slice_u8 Tryz.underlying5 cells_bag cells_u8 hf

theorem own : ownKnob Tryz.prog.godebug = none := by kernel_rfl
theorem laidOut : laidOutB Tryz.prog = true := by kernel_rfl

def laidA : List (String × DataW Unit) := [("unicode/utf8.acceptRanges", Rows.laid_unicode_utf8_acceptRanges), ("strongbox/hash.leftOrder", Rows.laid_strongbox_hash_leftOrder), ("strongbox/hash.rightOrder", Rows.laid_strongbox_hash_rightOrder), ("strongbox/hash.leftTurns", Rows.laid_strongbox_hash_leftTurns), ("strongbox/hash.rightTurns", Rows.laid_strongbox_hash_rightTurns), ("strongbox/hash.squareRoots", Rows.laid_strongbox_hash_squareRoots), ("strongbox/hash.cubeRoots", Rows.laid_strongbox_hash_cubeRoots), ("strongbox/text.bech32Code", Rows.laid_strongbox_text_bech32Code), ("unicode.CaseRanges", Rows.laid_unicode_CaseRanges), ("unicode/utf8.first", Rows.laid_unicode_utf8_first)]

theorem roots_of_laid {W : World} (h : laidMetH Tryz.prog laidA W) : Roots W := by
  rw [MakeChecks.laidMetH_plain _ _ _ (by kernel_rfl)] at h
  obtain ⟨ps, ⟨ga0, ta0, csa0, fa0, pa0, qa0, _, _, _, _, ⟨ga1, ta1, csa1, fa1, pa1, qa1, _, _, _, _, ⟨ga2, ta2, csa2, fa2, pa2, qa2, _, _, _, _, ⟨ga3, ta3, csa3, fa3, pa3, qa3, _, _, _, _, ⟨ga4, ta4, csa4, fa4, pa4, qa4, _, _, _, _, ⟨g5, t5, cs5, f5, p5, q5, hg5, ht5, hv5, hd5, ⟨g6, t6, cs6, f6, p6, q6, hg6, ht6, hv6, hd6, _, _⟩, _⟩, _⟩, _⟩, _⟩, _⟩, _⟩, _, _⟩ := h
  obtain rfl := Option.some.inj ((show Tryz.prog.globalNamed "strongbox/hash.squareRoots" = some 0 by kernel_rfl).symm.trans hg5)
  obtain rfl := Option.some.inj ((show (Tryz.prog.globals[0]?).map (·.type) = some 134 by kernel_rfl).symm.trans ht5)
  have e5 : (Rows.laid_strongbox_hash_squareRoots : DataW Unit) = Lib.tabData .u64 s512 := by kernel_rfl
  rw [e5] at hd5
  have c5 := Lib.cells_of_tab Tryz.underlying134 Tryz.underlying64 (by kernel_rfl) (by kernel_rfl) hd5
  have k5 : ∀ (t : Nat) (k : Int), s512[t]? = some k → W.cell? ⟨0, t, none⟩ = some (.int .u64 k) := fun t k hk => by
    have h := World.var?_cell hg5 hv5 t
    rw [h, ← Array.getElem?_toList, c5, List.getElem?_map, hk]
    rfl
  obtain rfl := Option.some.inj ((show Tryz.prog.globalNamed "strongbox/hash.cubeRoots" = some 2 by kernel_rfl).symm.trans hg6)
  obtain rfl := Option.some.inj ((show (Tryz.prog.globals[2]?).map (·.type) = some 167 by kernel_rfl).symm.trans ht6)
  have e6 : (Rows.laid_strongbox_hash_cubeRoots : DataW Unit) = Lib.tabData .u64 k512 := by kernel_rfl
  rw [e6] at hd6
  have c6 := Lib.cells_of_tab Tryz.underlying167 Tryz.underlying64 (by kernel_rfl) (by kernel_rfl) hd6
  have k6 : ∀ (t : Nat) (k : Int), k512[t]? = some k → W.cell? ⟨2, t, none⟩ = some (.int .u64 k) := fun t k hk => by
    have h := World.var?_cell hg6 hv6 t
    rw [h, ← Array.getElem?_toList, c6, List.getElem?_map, hk]
    rfl
  exact ⟨⟨World.block_lt_of_cell? _ _ (k6 0 _ rfl), k6⟩, ⟨World.block_lt_of_cell? _ _ (k5 0 _ rfl), k5⟩⟩

theorem tabs_of_laid {W : World} (h : laidMetH Tryz.prog laidA W) : Rm.TabsIs W := by
  rw [MakeChecks.laidMetH_plain _ _ _ (by kernel_rfl)] at h
  obtain ⟨ps, ⟨ga0, ta0, csa0, fa0, pa0, qa0, _, _, _, _, ⟨g1, t1, cs1, f1, p1, q1, hg1, ht1, hv1, hd1, ⟨g2, t2, cs2, f2, p2, q2, hg2, ht2, hv2, hd2, ⟨g3, t3, cs3, f3, p3, q3, hg3, ht3, hv3, hd3, ⟨g4, t4, cs4, f4, p4, q4, hg4, ht4, hv4, hd4, _, _⟩, _⟩, _⟩, _⟩, _⟩, _, _⟩ := h
  obtain rfl := Option.some.inj ((show Tryz.prog.globalNamed "strongbox/hash.leftOrder" = some 3 by kernel_rfl).symm.trans hg1)
  obtain rfl := Option.some.inj ((show (Tryz.prog.globals[3]?).map (·.type) = some 189 by kernel_rfl).symm.trans ht1)
  have e1 : (Rows.laid_strongbox_hash_leftOrder : DataW Unit) = Lib.tabData .u8 Rm.ord1 := by kernel_rfl
  rw [e1] at hd1
  have c1 := Lib.cells_of_tab Tryz.underlying189 Tryz.underlying5 (by kernel_rfl) (by kernel_rfl) hd1
  have k1 : ∀ (t : Nat) (k : Int), Rm.ord1[t]? = some k → W.cell? ⟨3, t, none⟩ = some (.int .u8 k) := fun t k hk => by
    have h := World.var?_cell hg1 hv1 t
    rw [h, ← Array.getElem?_toList, c1, List.getElem?_map, hk]
    rfl
  obtain rfl := Option.some.inj ((show Tryz.prog.globalNamed "strongbox/hash.rightOrder" = some 5 by kernel_rfl).symm.trans hg2)
  obtain rfl := Option.some.inj ((show (Tryz.prog.globals[5]?).map (·.type) = some 189 by kernel_rfl).symm.trans ht2)
  have e2 : (Rows.laid_strongbox_hash_rightOrder : DataW Unit) = Lib.tabData .u8 Rm.ord2 := by kernel_rfl
  rw [e2] at hd2
  have c2 := Lib.cells_of_tab Tryz.underlying189 Tryz.underlying5 (by kernel_rfl) (by kernel_rfl) hd2
  have k2 : ∀ (t : Nat) (k : Int), Rm.ord2[t]? = some k → W.cell? ⟨5, t, none⟩ = some (.int .u8 k) := fun t k hk => by
    have h := World.var?_cell hg2 hv2 t
    rw [h, ← Array.getElem?_toList, c2, List.getElem?_map, hk]
    rfl
  obtain rfl := Option.some.inj ((show Tryz.prog.globalNamed "strongbox/hash.leftTurns" = some 4 by kernel_rfl).symm.trans hg3)
  obtain rfl := Option.some.inj ((show (Tryz.prog.globals[4]?).map (·.type) = some 189 by kernel_rfl).symm.trans ht3)
  have e3 : (Rows.laid_strongbox_hash_leftTurns : DataW Unit) = Lib.tabData .u8 Rm.turn1 := by kernel_rfl
  rw [e3] at hd3
  have c3 := Lib.cells_of_tab Tryz.underlying189 Tryz.underlying5 (by kernel_rfl) (by kernel_rfl) hd3
  have k3 : ∀ (t : Nat) (k : Int), Rm.turn1[t]? = some k → W.cell? ⟨4, t, none⟩ = some (.int .u8 k) := fun t k hk => by
    have h := World.var?_cell hg3 hv3 t
    rw [h, ← Array.getElem?_toList, c3, List.getElem?_map, hk]
    rfl
  obtain rfl := Option.some.inj ((show Tryz.prog.globalNamed "strongbox/hash.rightTurns" = some 6 by kernel_rfl).symm.trans hg4)
  obtain rfl := Option.some.inj ((show (Tryz.prog.globals[6]?).map (·.type) = some 189 by kernel_rfl).symm.trans ht4)
  have e4 : (Rows.laid_strongbox_hash_rightTurns : DataW Unit) = Lib.tabData .u8 Rm.turn2 := by kernel_rfl
  rw [e4] at hd4
  have c4 := Lib.cells_of_tab Tryz.underlying189 Tryz.underlying5 (by kernel_rfl) (by kernel_rfl) hd4
  have k4 : ∀ (t : Nat) (k : Int), Rm.turn2[t]? = some k → W.cell? ⟨6, t, none⟩ = some (.int .u8 k) := fun t k hk => by
    have h := World.var?_cell hg4 hv4 t
    rw [h, ← Array.getElem?_toList, c4, List.getElem?_map, hk]
    rfl
  exact ⟨⟨World.block_lt_of_cell? _ _ (k1 0 _ rfl), k1⟩, ⟨World.block_lt_of_cell? _ _ (k2 0 _ rfl), k2⟩, ⟨World.block_lt_of_cell? _ _ (k3 0 _ rfl), k3⟩, ⟨World.block_lt_of_cell? _ _ (k4 0 _ rfl), k4⟩⟩

theorem code_fields : ∃ f0 f1 : Field, Tryz.prog.underlying 139 = some (.struct #[f0, f1]) ∧ f0.type = 3 ∧ f0.offset = 0 ∧ f1.type = 137 ∧ f1.offset = 1 :=
  ⟨_, _, Tryz.underlying139, rfl, rfl, rfl, rfl⟩

theorem bech_of_laid {W : World} (h : laidMetH Tryz.prog laidA W) : BechIs W := by
  rw [MakeChecks.laidMetH_plain _ _ _ (by kernel_rfl)] at h
  obtain ⟨ps, ⟨gaX, taX, csaX, faX, paX, qaX, _, _, _, _, ⟨ga1, ta1, csa1, fa1, pa1, qa1, _, _, _, _, ⟨ga2, ta2, csa2, fa2, pa2, qa2, _, _, _, _, ⟨ga3, ta3, csa3, fa3, pa3, qa3, _, _, _, _, ⟨ga4, ta4, csa4, fa4, pa4, qa4, _, _, _, _, ⟨ga5, ta5, csa5, fa5, pa5, qa5, _, _, _, _, ⟨ga6, ta6, csa6, fa6, pa6, qa6, _, _, _, _, ⟨g0, t0, cs0, f0, p0, q0, hg0, ht0, hv0, hd0, _, _⟩, _⟩, _⟩, _⟩, _⟩, _⟩, _⟩, _⟩, _, _⟩ := h
  obtain rfl := Option.some.inj ((show Tryz.prog.globalNamed "strongbox/text.bech32Code" = some 1 by kernel_rfl).symm.trans hg0)
  obtain rfl := Option.some.inj ((show (Tryz.prog.globals[1]?).map (·.type) = some 139 by kernel_rfl).symm.trans ht0)
  obtain ⟨g1, g2, hu, e1, e2, e3, e4⟩ := code_fields
  obtain ⟨y0, y1, n, hx, hl, hy0, hy1⟩ := trod_struct2 hu hd0
  have c1 : Tryz.prog.cellsOf 3 = 1 := by kernel_rfl
  have c5 : Tryz.prog.cellsOf 137 = 5 := by kernel_rfl
  have c6 : Tryz.prog.cellsOf 139 = 6 := by kernel_rfl
  rw [e1, e2, c1] at hy0
  rw [e3, e4, c5] at hy1
  rw [c6] at hl
  obtain ⟨m, hm, hm2, _⟩ := DataW.trod_int Tryz.underlying3 hy0
  have hdat := congrArg Prod.fst hx
  have hdat2 : (Rows.laid_strongbox_text_bech32Code : DataW Unit) = .agg [y0.1, y1.1] := hdat
  unfold Rows.laid_strongbox_text_bech32Code at hdat2
  injection hdat2 with hdat2
  injection hdat2 with h35 hrest
  injection hrest with htab _
  rw [hm2] at h35
  injection h35 with h35
  injection h35 with _ h35
  obtain ⟨d1, q1⟩ := y1
  have htab2 : d1 = Lib.tabData .u64 [996825010, 642813549, 513874426, 1027748829, 705979059] := htab.symm
  rw [htab2] at hy1
  have hcs := Lib.cells_of_tab Tryz.underlying137 Tryz.underlying64 (by kernel_rfl) c5 hy1
  have hdl : (cs0.toList.drop 1).length = 5 := by rw [List.length_drop]; omega
  rw [List.take_of_length_le (by omega)] at hcs
  rw [List.drop_zero] at hm
  have hall : cs0.toList = [.int .i64 25, .int .u64 996825010, .int .u64 642813549, .int .u64 513874426, .int .u64 1027748829, .int .u64 705979059] := by
    rw [← List.take_append_drop 1 cs0.toList, hm, hcs, ← h35]
    rfl
  have hcs0 : cs0 = #[.int .i64 25, .int .u64 996825010, .int .u64 642813549, .int .u64 513874426, .int .u64 1027748829, .int .u64 705979059] := by
    apply Array.toList_inj.1
    exact hall
  have k := fun o => World.var?_cell hg0 hv0 o
  rw [hcs0] at k
  exact ⟨World.block_lt_of_cell? _ _ (k 0), k 0, k 1, k 2, k 3, k 4, k 5⟩

end Go.Proofs.YtocblkacdoahfaaGreatDoor.Sa
