/-
  Texts joined: StTx, BcOpen, StTxO. Conditions: those of each.
-/
import Derived.Test.YtgiljhdjknglpaaDoorK10
import Derived.Test.YtgiljhdjknglpaaDoorK11
import Derived.Test.YtgiljhdjknglpaaDoorK22
import Derived.Test.YtgiljhdjknglpaaDoorK23
import Derived.Test.YtgiljhdjknglpaaDoorK3
import Derived.Test.YtgiljhdjknglpaaDoorK4
import Derived.Test.YtgiljhdjknglpaaDoorRows
import Derived.Test.YtgiljhdjknglpaaDoorCards
import Derived.Test.YtgiljhdjknglpaaDoorTie
import Derived.SevenTiedAt
import Derived.ChangeSame
import Derived.JoinedOf
import Derived.JoinedAt
import Derived.LaidMore
import Derived.LaidHandle
import Derived.Stop.Joined
import Derived.Deep.Slices
import Derived.Deep.Fields
import Derived.ProofKit
import Derived.OpenShut
import Derived.ChangeOld
import Derived.SizedLaws
import Derived.ChangeMaps5
import Derived.Lib.LaidTab
/-
  The law through the texts: hexadecimal digits, base 58 with its checksum, groups of five bits and bech32 give the same bytes again. Conditions: the listed tables hold what their texts lay.
-/
namespace Go.Proofs.YtgiljhdjknglpaaDoor
open Go.RowKit

theorem data_mk (l : List UInt8) : (ByteArray.data ⟨l.toArray⟩).toList = l := rfl
set_option maxRecDepth 100000 in
set_option maxHeartbeats 12800000 in
theorem texts_law (B : Nat) (x : Value) (xs : List UInt8) (s : ByteArray) (w : World) (hro : Roots w) (hbe : BechIs w) (hx : Byt w B x xs) (hB : B ≤ w.heap.size) (hs : s.size ≤ 140737488355328) :
    Calls Tryd.prog 4 #[x, .string s] w fun e w' => e = .returned (.bool true) ∧ Below w.heap.size w w' := by
  obtain ⟨A, c, hxf⟩ := hx.form
  subst hxf
  obtain ⟨hc1, hc2⟩ := hx.cap
  have hxl := hx.len
  unfold maxLen at hxl
  have HX := Lib.hid hx
  have R0 := Lib.hid hro
  have HBE := Lib.hid hbe
  have HSZ := Lib.hid hs
  obtain ⟨ys, hys⟩ : ∃ ys, ys = xs.take 50 := ⟨_, rfl⟩
  have hyl : ys.length ≤ 50 := by rw [hys, List.length_take]; omega
  have HYS := Lib.hid hys
  clear hx hro hbe hys hs
  go_enter Tryd.func4, Tryd.ntmps4
  go_upto_if 25 with fail
  go_cut [0] (fun v wx => ∃ A' c', v = .slice A' ys.length c' ∧ Byt wx B (.slice A' ys.length c') ys ∧ w = wx)
  case first =>
    by_cases h : 50 < xs.length
    · have hd : decide ((50 : Int) < (xs.length : Int)) = true := decide_eq_true (by omega)
      have he : c = 0 → False := fun h0 => by omega
      have h50 : (xs.take 50).length = 50 := by rw [List.length_take]; omega
      have HT := Lib.hid (show Byt w B (.slice A 50 c) (xs.take 50) from HX.out.take_ (by omega))
      have H50 := Lib.hid h50
      clear h50
      go_wp2
      go_meet
      refine ⟨A, c, ?_, ?_, rfl⟩
      · rw [HYS.out, H50.out]
      · have h2 : Byt w B (.slice A (xs.take 50).length c) (xs.take 50) := by rw [H50.out]; exact HT.out
        rw [HYS.out]
        exact h2
    · have hd : decide ((50 : Int) < (xs.length : Int)) = false := decide_eq_false (by omega)
      have HT := Lib.hid (show ys = xs by rw [HYS.out, List.take_of_length_le (by omega)])
      go_wp2
      go_meet
      refine ⟨A, c, ?_, ?_, rfl⟩
      · rw [HT.out]
      · rw [HT.out]; exact HX.out
  case rest =>
    obtain ⟨A1, c1, rfl, hy, hwc⟩ := hcut
    subst hwc
    clear hc1 hc2 hxl HX
    have HY := Lib.hid hy
    have CH := Lib.hid (hexp2_any B _ ys w hy hB (by omega))
    clear hy HYS
    go_wp2_with fail
    refine CH.out.mono ?_
    rintro e w1 ⟨rfl, hb1⟩
    have hs1 := hb1.size
    obtain ⟨hback1, hback2⟩ := hex_back ys
    have hdl := digsOf_length ys
    have CF := fromHex_any ⟨(digsOf ys).toArray⟩ w1 (by show (digsOf ys).toArray.size ≤ 20000; simp; omega)
    rw [data_mk] at CF
    have CFh := Lib.hid CF
    have HBK1 := Lib.hid hback1
    have HBK2 := Lib.hid hback2
    have HDL := Lib.hid hdl
    have HB1 := Lib.hid hb1
    clear CF hback1 hback2 hdl hb1 CH
    go_wp2_with fail
    refine CFh.out.mono ?_
    rintro e w2 ⟨hb2, ⟨_, g, n, hn, rfl, hrow⟩ | ⟨hbad, _⟩⟩
    rotate_left
    · exact absurd HBK1.out hbad
    have hn2 : n = ys.length := by have := HDL.out; omega
    rw [hn2, HBK2.out] at hrow
    rw [hn2]
    have hs2 := hb2.size
    have HB2 := Lib.hid (HB1.out.trans (hb2.mono hs1))
    have hh2 := hrow.byt (n := ys.length) (c := ys.length) (Nat.le_refl _) (Nat.le_refl _) (by unfold maxLen; omega)
    rw [List.take_length] at hh2
    have HH := Lib.hid hh2
    have HY2 := Lib.hid (HY.out.below (HB2.out.mono hB))
    have R2 := Lib.hid (R0.out.below HB2.out)
    have P3 := Lib.hid (check58_any _ _ ys w2 HY2.out (by have := HB2.out.size; omega) (by omega) R2.out)
    clear hn hn2 hrow hh2 hb2 CFh HDL HBK1 HBK2
    go_wp2_with fail
    refine P3.out.mono ?_
    rintro e w3 ⟨o2, rfl, hreb2, hb3⟩
    have hs3 := hb3.size
    have HREB2 := Lib.hid hreb2
    obtain ⟨Z2, hZ2⟩ : ∃ Z : ByteArray, Z = ⟨(letters b58D o2).toArray⟩ := ⟨_, rfl⟩
    rw [← hZ2]
    have HZ2 := Lib.hid hZ2
    have HB3 := Lib.hid (HB2.out.trans (hb3.mono HB2.out.size))
    have HH3 := Lib.hid (HH.out.below hb3)
    have HY3 := Lib.hid (HY.out.below (HB3.out.mono hB))
    have R3 := Lib.hid (R0.out.below HB3.out)
    have P4 : Hid (Calls Tryd.prog 15 #[.string Z2] w3 fun e w' => ∃ v, e = .returned (.tuple #[v, .int .i64 0]) ∧ Byt w' w'.heap.size v ys ∧ Below w3.heap.size w3 w') := Lib.hid ((fromcheck58_any Z2 w3 R3.out).mono (by
      rintro e w' ⟨k, o, v, hd, rfl, ho, hb⟩
      rw [HZ2.out, data_mk] at hd
      obtain ⟨rfl, rfl⟩ := hd.unique (dec_of_reb HREB2.out (by rw [List.length_append, sum4_length]; omega))
      rw [chk_back] at ho ⊢
      exact ⟨v, rfl, ho, hb⟩))
    clear hreb2 hZ2 hb3 P3 HH HY2 R2
    go_wp2_with fail
    refine P4.out.mono ?_
    rintro e w4 ⟨v4, rfl, hby4, hb4⟩
    obtain ⟨A4, c4, rfl⟩ := hby4.form
    have hs4 := hb4.size
    have HV4 := Lib.hid hby4
    have HB4 := Lib.hid (HB3.out.trans (hb4.mono HB3.out.size))
    have HH4 := Lib.hid (HH3.out.below (hb4.mono hs3))
    have HY4 := Lib.hid (HY.out.below (HB4.out.mono hB))
    obtain ⟨five, hfive⟩ : ∃ five, five = (regS 8 5 true ys).2 := ⟨_, rfl⟩
    have hfl : five.length ≤ 80 := by rw [hfive, reg85_len]; omega
    have P5 : Hid (Calls Tryd.prog 17 #[.slice A1 ys.length c1, .int .i64 8, .int .i64 5, .bool true] w4 fun e w' => ∃ v, e = .returned (.tuple #[v, .int .i64 0]) ∧ Byt w' w'.heap.size v five ∧ Below w4.heap.size w4 w') := Lib.hid ((regroup_any B _ ys 8 5 true w4 HY4.out (by have := HB4.out.size; omega) (by omega)).mono (by
      rintro e w' ⟨v, rfl, ho, hb⟩
      rw [reg85, hfive]
      exact ⟨v, rfl, ho.byt, hb⟩))
    have HFV := Lib.hid hfive
    clear hby4 hb4 P4 HH3 HY3 hfive
    go_wp2_with fail
    refine P5.out.mono ?_
    rintro e w5 ⟨v5, rfl, hby5, hb5⟩
    obtain ⟨A5, c5, rfl⟩ := hby5.form
    have hs5 := hb5.size
    have HV5 := Lib.hid hby5
    have HB5 := Lib.hid (HB4.out.trans (hb5.mono HB4.out.size))
    have HH5 := Lib.hid (HH4.out.below (hb5.mono (by omega)))
    have HV45 := Lib.hid (HV4.out.below hb5)
    have P6 : Hid (Calls Tryd.prog 17 #[.slice A5 five.length c5, .int .i64 5, .int .i64 8, .bool false] w5 fun e w' => ∃ v, e = .returned (.tuple #[v, .int .i64 0]) ∧ Byt w' w'.heap.size v ys ∧ Below w5.heap.size w5 w') := Lib.hid ((regroup_any _ _ five 5 8 false w5 HV5.out (Nat.le_refl _) (by omega)).mono (by
      rintro e w' ⟨v, rfl, ho, hb⟩
      rw [HFV.out, reg85_back] at ho ⊢
      exact ⟨v, rfl, ho.byt, hb⟩))
    clear hby5 hb5 P5 HH4 HV4 HY4
    go_wp2_with fail
    refine P6.out.mono ?_
    rintro e w6 ⟨v6, rfl, hby6, hb6⟩
    obtain ⟨A6, c6, rfl⟩ := hby6.form
    have hs6 := hb6.size
    have HB6 := Lib.hid (HB5.out.trans (hb6.mono HB5.out.size))
    have HF6 := Lib.hid (HV5.out.below hb6)
    have HY6 := Lib.hid (HY.out.below (HB6.out.mono hB))
    have E1 := Lib.hid (equal_yes _ _ _ _ _ _ w6 (HH5.out.below (hb6.mono (by omega))) HY6.out rfl)
    have E2 := Lib.hid (equal_yes _ _ _ _ _ _ w6 (HV45.out.below (hb6.mono (by omega))) HY6.out rfl)
    have E3 := Lib.hid (equal_yes _ _ _ _ _ _ w6 hby6 HY6.out rfl)
    have CX := Lib.hid (hexp2_any B _ ys w6 HY6.out (by have := HB6.out.size; omega) (by omega))
    clear hby6 hb6 P6 HH5 HV45 HV5
    go_wp2_with fail
    refine E1.out.mono ?_
    rintro e w6' ⟨rfl, rfl⟩
    go_wp2_with fail
    refine E2.out.mono ?_
    rintro e w6' ⟨rfl, rfl⟩
    go_wp2_with fail
    refine E3.out.mono ?_
    rintro e w6' ⟨rfl, rfl⟩
    go_wp2_with fail
    refine CX.out.mono ?_
    rintro e w7 ⟨rfl, hb7⟩
    have hs7 := hb7.size
    have HB7 := Lib.hid (HB6.out.trans (hb7.mono HB6.out.size))
    have HF7 := Lib.hid (HF6.out.below (hb7.mono hs6))
    have HY7 := Lib.hid (HY.out.below (HB7.out.mono hB))
    obtain ⟨D, hD⟩ : ∃ D : ByteArray, D = ⟨(digsOf ys).toArray⟩ := ⟨_, rfl⟩
    have CR := refHex_any B _ ys w7 HY7.out (by have := HB7.out.size; omega) (by omega)
    rw [← hD] at CR
    rw [← hD]
    have CRh := Lib.hid CR
    have hDD : (D.toList == D.toList) = true := by simp
    clear hb7 E1 E2 E3 CX HF6 HY6 CR hD
    go_wp2_with fail
    refine CRh.out.mono ?_
    rintro e w8 ⟨rfl, hb8⟩
    have hs8 := hb8.size
    have HB8 := Lib.hid (HB7.out.trans (hb8.mono HB7.out.size))
    have HF8 := Lib.hid (HF7.out.below (hb8.mono (by omega)))
    have HLE := Lib.hid (show w5.heap.size ≤ w8.heap.size by omega)
    clear hb8 CRh HF7 HY7 hDD
    go_upto_block 0 with fail
    have k0 : (w8.alloc (.cells #[.bool false, .bool true] 4)).cell? ⟨w8.heap.size, 0, none⟩ = some (.bool false) := by rw [cell_of_row _ _ 0 _ _ _ (heap_alloc_new w8 _)]; rfl
    have k1 : (w8.alloc (.cells #[.bool false, .bool true] 4)).cell? ⟨w8.heap.size, 1, none⟩ = some (.bool true) := by rw [cell_of_row _ _ 1 _ _ _ (heap_alloc_new w8 _)]; rfl
    have b9 : Below w8.heap.size w8 (w8.alloc (.cells #[.bool false, .bool true] 4)) := (Below.refl _ w8).alloc (Nat.le_refl _) _
    have s9 : (w8.alloc (.cells #[.bool false, .bool true] 4)).heap.size = w8.heap.size + 1 := by simp
    change Code.wp _ _ _ _ (w8.alloc (.cells #[.bool false, .bool true] 4))
    obtain ⟨w9, hw9⟩ : ∃ z, z = w8.alloc (.cells #[.bool false, .bool true] 4) := ⟨_, rfl⟩
    rw [← hw9] at k0 k1 b9 s9 ⊢
    obtain ⟨G, hG⟩ : ∃ G, G = w8.heap.size := ⟨_, rfl⟩
    have HF9 := Lib.hid (HF8.out.below (b9.mono HLE.out))
    have HB9 := Lib.hid (HB8.out.trans (b9.mono HB8.out.size))
    rw [← hG] at k0 k1 s9 ⊢
    have hkk : ∀ (i : Nat), i < 2 → ∃ m, w9.cell? ⟨G, i, none⟩ = some (.bool m) := fun i hi => by
      obtain rfl | rfl : i = 0 ∨ i = 1 := by omega
      · exact ⟨_, k0⟩
      · exact ⟨_, k1⟩
    have HK := Lib.hid hkk
    have HG9 := Lib.hid (show G < w9.heap.size by omega)
    have HLE9 := Lib.hid (show w5.heap.size ≤ w9.heap.size by have := HLE.out; omega)
    clear hw9 k0 k1 b9 s9 hkk hG HF8
    go_wp2_with fail
    go_loopw [91] (fun j wz => ∃ i : Nat, i ≤ 2 ∧ j = .int .i64 (i : Int) ∧ Below w9.heap.size w9 wz) (fun j _ => 2 - (intOf j).toNat)
    case atStart => exact ⟨0, by omega, rfl, Below.refl _ _⟩
    case round =>
      obtain ⟨i, hi, rfl, hbel⟩ := hrel
      obtain ⟨w10, hw10⟩ : ∃ z : World, z = wr := ⟨_, rfl⟩
      rw [← hw10] at hbel ⊢
      clear hw10
      have HBL := Lib.hid hbel
      clear hbel
      by_cases h2 : i < 2
      · obtain ⟨m, hm⟩ := HK.out i h2
        have hcm : w10.cell? ⟨G, i, none⟩ = some (.bool m) := (HBL.out.cell (p := ⟨G, i, none⟩) HG9.out).trans hm
        have b2 : (i : Int) < 2 := by omega
        have HB10 := Lib.hid (HB9.out.trans (HBL.out.mono HB9.out.size))
        have HF10 := Lib.hid (HF9.out.below (HBL.out.mono HLE9.out))
        have HL10 := Lib.hid (show w5.heap.size ≤ w10.heap.size by have := HBL.out.size; have := HLE9.out; omega)
        obtain ⟨h, hh⟩ : ∃ h, h = s.data.toList := ⟨_, rfl⟩
        obtain ⟨r, hr⟩ : ∃ r, r = bechS h five m := ⟨_, rfl⟩
        have P1 := bech32_any _ s _ five m w10 (HBE.out.below HB10.out HBE.out.1) HF10.out HL10.out HSZ.out (by omega)
        rw [← hh, ← hr] at P1
        have HHh := Lib.hid hh
        have HRr := Lib.hid hr
        have HP1 := Lib.hid P1
        clear P1 hh hr hm
        go_wp2_with fail
        refine HP1.out.mono ?_
        rintro e w11 ⟨rfl, hb11⟩
        have hs11 := hb11.size
        have HB11 := Lib.hid (HBL.out.trans (hb11.mono HBL.out.size))
        have HF11 := Lib.hid (HF10.out.below (hb11.mono HL10.out))
        obtain ⟨Z, hZ⟩ : ∃ Z : ByteArray, Z = ⟨r.2.toArray⟩ := ⟨_, rfl⟩
        obtain ⟨k, hk⟩ : ∃ k, k = r.1 := ⟨_, rfl⟩
        have P2 := refbech_any _ s _ five m w11 HF11.out (by have := HL10.out; omega) HSZ.out (by omega)
        rw [← HHh.out, ← HRr.out, ← hZ, ← hk] at P2
        rw [← hZ, ← hk]
        have HP2 := Lib.hid P2
        have HZ := Lib.hid hZ
        have HKk := Lib.hid hk
        have hzz : (Z.toList == Z.toList) = true := by simp
        have hkk : (k == k) = true := by simp
        clear hb11 P2 hZ hk HP1 HB10 HF10 hcm
        go_wp2_with fail
        refine HP2.out.mono ?_
        rintro e w12 ⟨rfl, hb12⟩
        have hs12 := hb12.size
        have HB12 := Lib.hid (HB11.out.trans (hb12.mono HB11.out.size))
        have HF12 := Lib.hid (HF11.out.below (hb12.mono (by have := HL10.out; omega)))
        have HL12 := Lib.hid (show w5.heap.size ≤ w12.heap.size by have := HL10.out; omega)
        clear hb12 HP2 HF11 HB11
        by_cases hk0 : k = 0
        · subst hk0
          have hbk := bech_back (h := h) (d := five) (m := m) (by rw [← HRr.out, ← HKk.out])
          rw [← HRr.out] at hbk
          have hZd : Z.data.toList = r.2 := by rw [HZ.out]
          have hr2 : r.2.length ≤ 90 := by
            have he : (bechS h five m).1 = 0 := by rw [← HRr.out, ← HKk.out]
            obtain ⟨q1, q2, q3⟩ := bechS_ok he
            rw [HRr.out, bechS_good (by omega) q2 q3]
            show (h ++ [49] ++ letters l32 (five ++ closeB h five m)).length ≤ 90
            rw [splitOk_len, List.length_append, closeB_length]
            omega
          have hZs : Z.size ≤ 90 := by show Z.data.size ≤ 90; rw [← Array.length_toList, hZd]; exact hr2
          have HBW := HB9.out.trans (HB12.out.mono HB9.out.size)
          have P4 := frombech_any Z w12 (HBE.out.below HBW HBE.out.1) (by omega)
          rw [hZd, hbk] at P4
          have hSx2 : s = ⟨h.toArray⟩ := str_of _ HHh.out
          unfold BechPost at P4
          dsimp only at P4
          rw [← hSx2] at P4
          have HP4 := Lib.hid P4
          have hss : (s.toList == s.toList) = true := by simp
          have hmm : (m == m) = true := by simp
          clear P4 hbk hZd hr2 hSx2 HBW hZs
          go_wp2_with fail
          refine HP4.out.mono ?_
          rintro e w13 ⟨v, rfl, hv, hb13⟩
          obtain ⟨A13, c13, rfl⟩ := hv.form
          have EQ := Lib.hid (equal_yes _ _ _ _ _ _ w13 hv (HF12.out.below (hb13.mono HL12.out)) rfl)
          have HB13 := Lib.hid (HB12.out.trans (hb13.mono HB12.out.size))
          clear hv hb13 HP4
          go_wp2_with fail
          refine EQ.out.mono ?_
          rintro e w14 ⟨rfl, rfl⟩
          go_wp2_with fail
          exact ⟨⟨i + 1, by omega, by go_num, HB13.out⟩, by simp [intOf]; omega⟩
        · have hkn : (k != 0) = true := by simp only [bne_iff_ne, ne_eq]; exact hk0
          clear hk0
          go_wp2_with fail
          exact ⟨⟨i + 1, by omega, by go_num, HB12.out⟩, by simp [intOf]; omega⟩
      · obtain rfl : i = 2 := by omega
        have e2 : ((2 : Nat) : Int) = 2 := rfl
        rw [e2]
        clear e2 h2 hi
        have HFIN := Lib.hid (HB9.out.trans (HBL.out.mono HB9.out.size))
        go_wp2_with fail
        go_ret
        exact ⟨rfl, HFIN.out⟩
end Go.Proofs.YtgiljhdjknglpaaDoor

/-
  From an argument that can be read as data to bytes in memory; and from the rows' listed variables to the codes that the walks read. Conditions: none.
-/
namespace Go.Proofs.YtgiljhdjknglpaaDoor
open Go.ChangeShapes Go.WideShapes Go.ChangeAt Go.RowKit Go.Deep

theorem b8_bv {k : Int} (h0 : 0 ≤ k) (h1 : k ≤ 255) : bv (b8 k) = .int .u8 k := bv_b8_of h0 (by omega)

theorem add_at (b o i : Nat) : (⟨b, o, none⟩ : Addr).add i = ⟨b, o + i, none⟩ := by unfold Addr.add; split <;> simp_all

theorem spot_none {w : World} {a : Addr} {v : Value} (h : w.cell? a = some v) : a = ⟨a.block, a.off, none⟩ := by
  have := World.cell?_spot h
  cases a
  simp_all

/-- A slice of bytes that came in. -/
theorem byt_open {H : Type} {enc : TypeId × Value → H} {P : Program} {w : World} {spare : Nat → Bool} {held : Bool} {fuel : Nat} {t e : TypeId} {v : Value} {x : DataW H × List MemPlace}
    (ht : P.underlying t = some (.slice e)) (he : P.underlying e = some (.int .u8)) (hc : P.cellsOf e = 1) (h : DataW.trod enc P w 0 spare held fuel t [v] = some x) : ∃ bs, Byt w w.heap.size v bs := by
  rcases open_ints ht he hc h with ⟨hcs, _⟩ | ⟨a, len, cap, zs, hcs, _, hl, hm, hz, _, hcell, hwf⟩
  · simp only [List.cons.injEq, and_true] at hcs
    subst hcs
    exact ⟨[], Byt.nil _ _⟩
  · simp only [List.cons.injEq, and_true] at hcs
    subst hcs
    have hlz : len ≤ zs.length := by rw [hz]; split <;> omega
    have hlen : ((zs.take len).map b8).length = len := by simp; omega
    refine ⟨(zs.take len).map b8, some a, cap, by rw [hlen], by rw [hlen]; exact hl, hm, (by intro h; cases h), fun hne => ?_⟩
    have hpos : 0 < len := by
      rcases Nat.eq_zero_or_pos len with h0 | h0
      · rw [h0] at hne; simp at hne
      · exact h0
    have h0 := hcell 0 (by omega)
    have hadd0 : a.add 0 = a := by unfold Addr.add; simp
    rw [hadd0] at h0
    have hsp := spot_none h0
    refine ⟨a.block, a.off, by rw [← hsp], World.block_lt_of_cell? _ _ h0, fun j u hu => ?_⟩
    have hj : j < len := by
      have := (List.getElem?_eq_some_iff.1 hu).1
      omega
    have hcj := hcell j (by omega)
    have hadd : a.add j = ⟨a.block, a.off + j, none⟩ := (congrArg (fun q : Addr => q.add j) hsp).trans (add_at _ _ _)
    rw [hadd] at hcj
    rw [hcj]
    have hzj : zs.getD j 0 = zs[j]'(by omega) := by rw [List.getD, List.getElem?_eq_getElem (show j < zs.length by omega)]; rfl
    rw [List.getElem?_map, List.getElem?_take, if_pos hj, List.getElem?_eq_getElem (by omega)] at hu
    simp at hu
    subst hu
    have hw := hwf (zs[j]'(by omega)) (List.getElem_mem _)
    rw [hzj]
    have hw2 := bounds_u8 hw
    rw [b8_bv]
    · exact hw2.1
    · have := hw2.2
      omega

theorem own : ownKnob Tryd.prog.godebug = none := by kernel_rfl
theorem laidOut : laidOutB Tryd.prog = true := by kernel_rfl

def laidL : List (String × DataW Unit) := [("unicode/utf8.acceptRanges", Rows.laid_unicode_utf8_acceptRanges), ("strongbox/text.bech32Code", Rows.laid_strongbox_text_bech32Code), ("strongbox/text.descriptorCode", Rows.laid_strongbox_text_descriptorCode), ("unicode.CaseRanges", Rows.laid_unicode_CaseRanges), ("unicode/utf8.first", Rows.laid_unicode_utf8_first)]

theorem code_fields : ∃ f0 f1 : Field, Tryd.prog.underlying 70 = some (.struct #[f0, f1]) ∧ f0.type = 3 ∧ f0.offset = 0 ∧ f1.type = 68 ∧ f1.offset = 1 :=
  ⟨_, _, Tryd.underlying70, rfl, rfl, rfl, rfl⟩

theorem bech_of_laid {W : World} (h : laidMetH Tryd.prog laidL W) : BechIs W := by
  rw [MakeChecks.laidMetH_plain _ _ _ (by kernel_rfl)] at h
  obtain ⟨ps, ⟨ga1, ta1, csa1, fa1, pa1, qa1, _, _, _, _, ⟨g0, t0, cs0, f0, p0, q0, hg0, ht0, hv0, hd0, _, _⟩, _⟩, _, _⟩ := h
  obtain rfl := Option.some.inj ((show Tryd.prog.globalNamed "strongbox/text.bech32Code" = some 1 by kernel_rfl).symm.trans hg0)
  obtain rfl := Option.some.inj ((show (Tryd.prog.globals[1]?).map (·.type) = some 70 by kernel_rfl).symm.trans ht0)
  obtain ⟨g1, g2, hu, e1, e2, e3, e4⟩ := code_fields
  obtain ⟨y0, y1, n, hx, hl, hy0, hy1⟩ := trod_struct2 hu hd0
  have c1 : Tryd.prog.cellsOf 3 = 1 := by kernel_rfl
  have c5 : Tryd.prog.cellsOf 68 = 5 := by kernel_rfl
  have c6 : Tryd.prog.cellsOf 70 = 6 := by kernel_rfl
  rw [e1, e2, c1] at hy0
  rw [e3, e4, c5] at hy1
  rw [c6] at hl
  obtain ⟨m, hm, hm2, _⟩ := DataW.trod_int Tryd.underlying3 hy0
  have hdat := congrArg Prod.fst hx
  have hdat2 : (Rows.laid_strongbox_text_bech32Code : DataW Unit) = .agg [y0.1, y1.1] := hdat
  unfold Rows.laid_strongbox_text_bech32Code at hdat2
  injection hdat2 with hdat2
  injection hdat2 with h35 hrest
  injection hrest with htab _
  rw [hm2] at h35
  injection h35 with h35
  injection h35 with _ h35
  obtain ⟨d1, q1⟩ := y1
  have htab2 : d1 = Lib.tabData .u64 [996825010, 642813549, 513874426, 1027748829, 705979059] := htab.symm
  rw [htab2] at hy1
  have hcs := Lib.cells_of_tab Tryd.underlying68 Tryd.underlying52 (by kernel_rfl) c5 hy1
  have hdl : (cs0.toList.drop 1).length = 5 := by rw [List.length_drop]; omega
  rw [List.take_of_length_le (by omega)] at hcs
  rw [List.drop_zero] at hm
  have hall : cs0.toList = [.int .i64 25, .int .u64 996825010, .int .u64 642813549, .int .u64 513874426, .int .u64 1027748829, .int .u64 705979059] := by
    rw [← List.take_append_drop 1 cs0.toList, hm, hcs, ← h35]
    rfl
  have hcs0 : cs0 = #[.int .i64 25, .int .u64 996825010, .int .u64 642813549, .int .u64 513874426, .int .u64 1027748829, .int .u64 705979059] := by
    apply Array.toList_inj.1
    exact hall
  have k := fun o => World.var?_cell hg0 hv0 o
  rw [hcs0] at k
  exact ⟨World.block_lt_of_cell? _ _ (k 0), k 0, k 1, k 2, k 3, k 4, k 5⟩

theorem code_of_laid {W : World} (h : laidMetH Tryd.prog laidL W) : CodeIs W := by
  rw [MakeChecks.laidMetH_plain _ _ _ (by kernel_rfl)] at h
  obtain ⟨ps, ⟨ga1, ta1, csa1, fa1, pa1, qa1, _, _, _, _, ⟨ga2, ta2, csa2, fa2, pa2, qa2, _, _, _, _, ⟨g0, t0, cs0, f0, p0, q0, hg0, ht0, hv0, hd0, _, _⟩, _⟩, _⟩, _, _⟩ := h
  obtain rfl := Option.some.inj ((show Tryd.prog.globalNamed "strongbox/text.descriptorCode" = some 0 by kernel_rfl).symm.trans hg0)
  obtain rfl := Option.some.inj ((show (Tryd.prog.globals[0]?).map (·.type) = some 70 by kernel_rfl).symm.trans ht0)
  obtain ⟨g1, g2, hu, e1, e2, e3, e4⟩ := code_fields
  obtain ⟨y0, y1, n, hx, hl, hy0, hy1⟩ := trod_struct2 hu hd0
  have c1 : Tryd.prog.cellsOf 3 = 1 := by kernel_rfl
  have c5 : Tryd.prog.cellsOf 68 = 5 := by kernel_rfl
  have c6 : Tryd.prog.cellsOf 70 = 6 := by kernel_rfl
  rw [e1, e2, c1] at hy0
  rw [e3, e4, c5] at hy1
  rw [c6] at hl
  obtain ⟨m, hm, hm2, _⟩ := DataW.trod_int Tryd.underlying3 hy0
  have hdat := congrArg Prod.fst hx
  have hdat2 : (Rows.laid_strongbox_text_descriptorCode : DataW Unit) = .agg [y0.1, y1.1] := hdat
  unfold Rows.laid_strongbox_text_descriptorCode at hdat2
  injection hdat2 with hdat2
  injection hdat2 with h35 hrest
  injection hrest with htab _
  rw [hm2] at h35
  injection h35 with h35
  injection h35 with _ h35
  obtain ⟨d1, q1⟩ := y1
  have htab2 : d1 = Lib.tabData .u64 [1056006543753, 730107360018, 118834127661, 236335490938, 430795026429] := htab.symm
  rw [htab2] at hy1
  have hcs := Lib.cells_of_tab Tryd.underlying68 Tryd.underlying52 (by kernel_rfl) c5 hy1
  have hdl : (cs0.toList.drop 1).length = 5 := by rw [List.length_drop]; omega
  rw [List.take_of_length_le (by omega)] at hcs
  rw [List.drop_zero] at hm
  have hall : cs0.toList = [.int .i64 35, .int .u64 1056006543753, .int .u64 730107360018, .int .u64 118834127661, .int .u64 236335490938, .int .u64 430795026429] := by
    rw [← List.take_append_drop 1 cs0.toList, hm, hcs, ← h35]
    rfl
  have hcs0 : cs0 = #[.int .i64 35, .int .u64 1056006543753, .int .u64 730107360018, .int .u64 118834127661, .int .u64 236335490938, .int .u64 430795026429] := by
    apply Array.toList_inj.1
    exact hall
  have k := fun o => World.var?_cell hg0 hv0 o
  rw [hcs0] at k
  exact ⟨World.block_lt_of_cell? _ _ (k 0), k 0, k 1, k 2, k 3, k 4, k 5⟩
end Go.Proofs.YtgiljhdjknglpaaDoor

/-
  From the rows' listed variables to the roots and the code that the walks read. Conditions: none.
-/
namespace Go.Proofs.YtgiljhdjknglpaaDoor
open Go.ChangeShapes Go.WideShapes Go.ChangeAt Go.RowKit Go.Deep

def laidT : List (String × DataW Unit) := [("unicode/utf8.acceptRanges", Rows.laid_unicode_utf8_acceptRanges), ("strongbox/hash.squareRoots", Rows.laid_strongbox_hash_squareRoots), ("strongbox/hash.cubeRoots", Rows.laid_strongbox_hash_cubeRoots), ("strongbox/text.bech32Code", Rows.laid_strongbox_text_bech32Code), ("unicode.CaseRanges", Rows.laid_unicode_CaseRanges), ("unicode/utf8.first", Rows.laid_unicode_utf8_first)]

theorem roots_of_laidT {W : World} (h : laidMetH Tryd.prog laidT W) : Roots W := by
  rw [MakeChecks.laidMetH_plain _ _ _ (by kernel_rfl)] at h
  obtain ⟨ps, ⟨ga1, ta1, csa1, fa1, pa1, qa1, _, _, _, _, ⟨g0, t0, cs0, f0, p0, q0, hg0, ht0, hv0, hd0, ⟨g1, t1, cs1, f1, p1, q1, hg1, ht1, hv1, hd1, _, _⟩, _⟩, _⟩, _, _⟩ := h
  obtain rfl := Option.some.inj ((show Tryd.prog.globalNamed "strongbox/hash.squareRoots" = some 6 by kernel_rfl).symm.trans hg0)
  obtain rfl := Option.some.inj ((show (Tryd.prog.globals[6]?).map (·.type) = some 139 by kernel_rfl).symm.trans ht0)
  obtain rfl := Option.some.inj ((show Tryd.prog.globalNamed "strongbox/hash.cubeRoots" = some 7 by kernel_rfl).symm.trans hg1)
  obtain rfl := Option.some.inj ((show (Tryd.prog.globals[7]?).map (·.type) = some 147 by kernel_rfl).symm.trans ht1)
  have e0 : (Rows.laid_strongbox_hash_squareRoots : DataW Unit) = Lib.tabData .u64 s512 := by kernel_rfl
  have e1 : (Rows.laid_strongbox_hash_cubeRoots : DataW Unit) = Lib.tabData .u64 k512 := by kernel_rfl
  rw [e0] at hd0
  rw [e1] at hd1
  have c0 := Lib.cells_of_tab Tryd.underlying139 Tryd.underlying52 (by kernel_rfl) (by kernel_rfl) hd0
  have c1 := Lib.cells_of_tab Tryd.underlying147 Tryd.underlying52 (by kernel_rfl) (by kernel_rfl) hd1
  have k0 : ∀ (t : Nat) (k : Int), s512[t]? = some k → W.cell? ⟨6, t, none⟩ = some (.int .u64 k) := fun t k hk => by
    have h := World.var?_cell hg0 hv0 t
    rw [h, ← Array.getElem?_toList, c0, List.getElem?_map, hk]
    rfl
  have k1 : ∀ (t : Nat) (k : Int), k512[t]? = some k → W.cell? ⟨7, t, none⟩ = some (.int .u64 k) := fun t k hk => by
    have h := World.var?_cell hg1 hv1 t
    rw [h, ← Array.getElem?_toList, c1, List.getElem?_map, hk]
    rfl
  exact ⟨⟨World.block_lt_of_cell? _ _ (k1 0 _ rfl), k1⟩, ⟨World.block_lt_of_cell? _ _ (k0 0 _ rfl), k0⟩⟩

theorem bech_of_laidT {W : World} (h : laidMetH Tryd.prog laidT W) : BechIs W := by
  rw [MakeChecks.laidMetH_plain _ _ _ (by kernel_rfl)] at h
  obtain ⟨ps, ⟨ga1, ta1, csa1, fa1, pa1, qa1, _, _, _, _, ⟨ga2, ta2, csa2, fa2, pa2, qa2, _, _, _, _, ⟨ga3, ta3, csa3, fa3, pa3, qa3, _, _, _, _, ⟨g0, t0, cs0, f0, p0, q0, hg0, ht0, hv0, hd0, _, _⟩, _⟩, _⟩, _⟩, _, _⟩ := h
  obtain rfl := Option.some.inj ((show Tryd.prog.globalNamed "strongbox/text.bech32Code" = some 1 by kernel_rfl).symm.trans hg0)
  obtain rfl := Option.some.inj ((show (Tryd.prog.globals[1]?).map (·.type) = some 70 by kernel_rfl).symm.trans ht0)
  obtain ⟨g1, g2, hu, e1, e2, e3, e4⟩ := code_fields
  obtain ⟨y0, y1, n, hx, hl, hy0, hy1⟩ := trod_struct2 hu hd0
  have c1 : Tryd.prog.cellsOf 3 = 1 := by kernel_rfl
  have c5 : Tryd.prog.cellsOf 68 = 5 := by kernel_rfl
  have c6 : Tryd.prog.cellsOf 70 = 6 := by kernel_rfl
  rw [e1, e2, c1] at hy0
  rw [e3, e4, c5] at hy1
  rw [c6] at hl
  obtain ⟨m, hm, hm2, _⟩ := DataW.trod_int Tryd.underlying3 hy0
  have hdat := congrArg Prod.fst hx
  have hdat2 : (Rows.laid_strongbox_text_bech32Code : DataW Unit) = .agg [y0.1, y1.1] := hdat
  unfold Rows.laid_strongbox_text_bech32Code at hdat2
  injection hdat2 with hdat2
  injection hdat2 with h35 hrest
  injection hrest with htab _
  rw [hm2] at h35
  injection h35 with h35
  injection h35 with _ h35
  obtain ⟨d1, q1⟩ := y1
  have htab2 : d1 = Lib.tabData .u64 [996825010, 642813549, 513874426, 1027748829, 705979059] := htab.symm
  rw [htab2] at hy1
  have hcs := Lib.cells_of_tab Tryd.underlying68 Tryd.underlying52 (by kernel_rfl) c5 hy1
  have hdl : (cs0.toList.drop 1).length = 5 := by rw [List.length_drop]; omega
  rw [List.take_of_length_le (by omega)] at hcs
  rw [List.drop_zero] at hm
  have hall : cs0.toList = [.int .i64 25, .int .u64 996825010, .int .u64 642813549, .int .u64 513874426, .int .u64 1027748829, .int .u64 705979059] := by
    rw [← List.take_append_drop 1 cs0.toList, hm, hcs, ← h35]
    rfl
  have hcs0 : cs0 = #[.int .i64 25, .int .u64 996825010, .int .u64 642813549, .int .u64 513874426, .int .u64 1027748829, .int .u64 705979059] := by
    apply Array.toList_inj.1
    exact hall
  have k := fun o => World.var?_cell hg0 hv0 o
  rw [hcs0] at k
  exact ⟨World.block_lt_of_cell? _ _ (k 0), k 0, k 1, k 2, k 3, k 4, k 5⟩

end Go.Proofs.YtgiljhdjknglpaaDoor
