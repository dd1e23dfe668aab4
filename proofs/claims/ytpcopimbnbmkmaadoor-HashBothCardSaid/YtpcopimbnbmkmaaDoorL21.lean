/-
  Texts joined: RefRot, RmRB6, RmRB8. Conditions: those of each.
-/
import Derived.Test.YtpcopimbnbmkmaaDoorL2
import Derived.Test.YtpcopimbnbmkmaaDoorL20
import Derived.StillTailTactics
import Derived.Test.YtpcopimbnbmkmaaDoorL17
/-
  The reference's rot. Conditions: none.
-/
namespace Go.Proofs.YtpcopimbnbmkmaaDoor
open Go.RowKit
set_option maxRecDepth 100000 in
set_option maxHeartbeats 800000 in
theorem rrot_any (x : Int) (n : Nat) (w : World) (_hx : U32 x) (hn : n ≤ 31) :
    Calls Tryd.prog 25 #[.int .u32 x, .int .i64 n] w fun e w' => e = .returned (.int .u32 (rot32 n x)) ∧ w = w' := by
  obtain ⟨q, hq⟩ : ∃ q, q = 32 - n := ⟨_, rfl⟩
  have e3 : (32 : Int) - (n : Int) = (q : Int) := by omega
  have hr : rot32 n x = bits .or .u32 (x * 2 ^ n % 4294967296) (x / 2 ^ q) := by rw [hq]; rfl
  have HR := Lib.hid hr
  have hq32 : q ≤ 32 := by omega
  clear hr hq
  go_enter Tryd.func25, Tryd.ntmps25
  go_wp2
  go_ret
  exact ⟨by rw [HR.out]; rfl, rfl⟩
end Go.Proofs.YtpcopimbnbmkmaaDoor

/-
  The reference's Ripemd: the eighty rounds of both lines. Conditions: none.
-/
namespace Go.Proofs.YtpcopimbnbmkmaaDoor.Rm
open Go.RowKit

theorem rf_still (r : Nat) (b c d : Int) (w : World) (hr : r < 5) : Calls Tryd.prog 34 #[.int .i64 r, .int .u32 b, .int .u32 c, .int .u32 d] w fun e w' => e = .returned (.int .u32 (fR r b c d)) ∧ w' = w :=
  (rf_any r b c d w hr).mono fun _ _ ⟨a, b⟩ => ⟨a, b.symm⟩
theorem rrot_still (x : Int) (n : Nat) (w : World) (hx : U32 x) (hn : n ≤ 31) : Calls Tryd.prog 25 #[.int .u32 x, .int .i64 n] w fun e w' => e = .returned (.int .u32 (rot32 n x)) ∧ w' = w :=
  (rrot_any x n w hx hn).mono fun _ _ ⟨a, b⟩ => ⟨a, b.symm⟩
set_option maxRecDepth 1000000 in
set_option maxHeartbeats 12800000 in
theorem rb6_any {Q : Exit → Act → World → Prop} (R1 R2 S1 S2 K1 K2 W GP GQ : Nat) (xs : List Int) (s0 : S5) (w5 : World) (hok : s0.Ok) (hxl : xs.length = 16) (hPQ : GP < GQ) (hR1 : R1 < GP) (hR2 : R2 < GP) (hS1 : S1 < GP) (hS2 : S2 < GP) (hK1 : K1 < GP) (hK2 : K2 < GP) (hW : W < GP) (rR1 : IRow w5 R1 68 .i64 ord1) (rR2 : IRow w5 R2 68 .i64 ord2) (rS1 : IRow w5 S1 68 .i64 turn1) (rS2 : IRow w5 S2 68 .i64 turn2) (rK1 : IRow w5 K1 57 .u32 add1) (rK2 : IRow w5 K2 57 .u32 add2) (rW : IRow w5 W 69 .u32 xs) (rP : IRow w5 GP 57 .u32 s0.list) (rQ : IRow w5 GQ 57 .u32 s0.list) (u0 u1 u2 u9 u10 u11 u13 u14 u18 u19 u20 u21 u22 u23 u24 u25 u26 u27 u28 u29 u30 u31 u32 u33 u34 u35 u36 u37 u38 u39 u40 u41 u42 u43 u44 u45 u46 u47 u48 u49 u50 u51 u52 u53 u54 u55 u56 u57 u58 u59 u60 u61 u62 u63 u64 u65 u66 u67 u68 u69 u70 u71 u72 u73 u74 u75 u76 u77 u78 u79 u80 u81 u82 u83 u84 u85 u86 u87 u88 u89 u90 u91 u92 u93 u94 u95 u96 u97 u98 u99 u100 u101 u102 u103 u104 u105 u106 u107 u108 u109 u110 u111 u112 u113 u114 u115 u116 u117 u118 u119 u120 u121 u122 u123 u124 u125 u126 u127 u128 u129 u130 u131 u132 u133 u134 u135 u136 u137 u138 u139 u140 u141 u142 u143 u144 u145 u146 u147 u148 u149 u150 u151 u152 u153 u154 u155 u156 u157 u158 u159 u160 u161 u162 u163 u164 u165 u166 u167 u168 u169 u170 u171 u172 u173 u174 u175 u176 u177 u178 u179 u180 u181 u182 u183 u184 u185 u186 u187 u188 u189 u190 u191 u192 u193 u194 u195 u196 u197 u198 u199 u200 u201 u202 u203 u204 u205 u206 u207 : Value)
    (_hPan : ∀ (c : List PanicEntry) (a : Act) (d : Tmp) (v : Value) (w : World), Q (.panic c) (a.put (some d) v) w → Q (.panic c) a w)
    (hQ : ∀ (v17 v18 v63 v64 v65 v66 v67 v68 v69 v70 v71 v72 v73 v74 v75 v76 v77 v78 v79 v80 v81 v82 v83 v84 v85 v86 v87 v88 v89 v90 v91 v92 v93 v94 v95 v96 v97 v98 v99 v100 v101 v102 v103 v104 v105 v106 v107 v108 v109 v110 v111 v112 v113 v114 v115 v116 v117 v118 v119 v120 v121 v122 v123 v124 v125 v126 v127 v128 v129 v130 v131 v132 v133 v134 v135 v136 v137 v138 v139 v140 v141 v142 v143 v144 v145 v146 v147 v148 v149 : Value) (w' : World), IRow w' GP 57 .u32 (line1 xs 80 s0).list → IRow w' GQ 57 .u32 (line2 xs 80 s0).list → Below GP w5 w' → Q .normal ⟨#[u0, u1, u2, .pointer (some ⟨R1, 0, none⟩), .pointer (some ⟨R2, 0, none⟩), .pointer (some ⟨S1, 0, none⟩), .pointer (some ⟨S2, 0, none⟩), .pointer (some ⟨K1, 0, none⟩), .pointer (some ⟨K2, 0, none⟩), u9, u10, u11, .pointer (some ⟨W, 0, none⟩), u13, u14, .pointer (some ⟨GP, 0, none⟩), .pointer (some ⟨GQ, 0, none⟩), v17, v18, u19, u20, u21, u22, u23, u24, u25, u26, u27, u28, u29, u30, u31, u32, u33, u34, u35, u36, u37, u38, u39, u40, u41, u42, u43, u44, u45, u46, u47, u48, u49, u50, u51, u52, u53, u54, u55, u56, u57, u58, u59, u60, u61, u62, v63, v64, v65, v66, v67, v68, v69, v70, v71, v72, v73, v74, v75, v76, v77, v78, v79, v80, v81, v82, v83, v84, v85, v86, v87, v88, v89, v90, v91, v92, v93, v94, v95, v96, v97, v98, v99, v100, v101, v102, v103, v104, v105, v106, v107, v108, v109, v110, v111, v112, v113, v114, v115, v116, v117, v118, v119, v120, v121, v122, v123, v124, v125, v126, v127, v128, v129, v130, v131, v132, v133, v134, v135, v136, v137, v138, v139, v140, v141, v142, v143, v144, v145, v146, v147, v148, v149, u150, u151, u152, u153, u154, u155, u156, u157, u158, u159, u160, u161, u162, u163, u164, u165, u166, u167, u168, u169, u170, u171, u172, u173, u174, u175, u176, u177, u178, u179, u180, u181, u182, u183, u184, u185, u186, u187, u188, u189, u190, u191, u192, u193, u194, u195, u196, u197, u198, u199, u200, u201, u202, u203, u204, u205, u206, u207], []⟩ w') :
    Code.wp Tryd.prog (blkOf 6 Tryd.f13) Q ⟨#[u0, u1, u2, .pointer (some ⟨R1, 0, none⟩), .pointer (some ⟨R2, 0, none⟩), .pointer (some ⟨S1, 0, none⟩), .pointer (some ⟨S2, 0, none⟩), .pointer (some ⟨K1, 0, none⟩), .pointer (some ⟨K2, 0, none⟩), u9, u10, u11, .pointer (some ⟨W, 0, none⟩), u13, u14, .pointer (some ⟨GP, 0, none⟩), .pointer (some ⟨GQ, 0, none⟩), .int .i64 0, u18, u19, u20, u21, u22, u23, u24, u25, u26, u27, u28, u29, u30, u31, u32, u33, u34, u35, u36, u37, u38, u39, u40, u41, u42, u43, u44, u45, u46, u47, u48, u49, u50, u51, u52, u53, u54, u55, u56, u57, u58, u59, u60, u61, u62, u63, u64, u65, u66, u67, u68, u69, u70, u71, u72, u73, u74, u75, u76, u77, u78, u79, u80, u81, u82, u83, u84, u85, u86, u87, u88, u89, u90, u91, u92, u93, u94, u95, u96, u97, u98, u99, u100, u101, u102, u103, u104, u105, u106, u107, u108, u109, u110, u111, u112, u113, u114, u115, u116, u117, u118, u119, u120, u121, u122, u123, u124, u125, u126, u127, u128, u129, u130, u131, u132, u133, u134, u135, u136, u137, u138, u139, u140, u141, u142, u143, u144, u145, u146, u147, u148, u149, u150, u151, u152, u153, u154, u155, u156, u157, u158, u159, u160, u161, u162, u163, u164, u165, u166, u167, u168, u169, u170, u171, u172, u173, u174, u175, u176, u177, u178, u179, u180, u181, u182, u183, u184, u185, u186, u187, u188, u189, u190, u191, u192, u193, u194, u195, u196, u197, u198, u199, u200, u201, u202, u203, u204, u205, u206, u207], []⟩ w5 := by
  conv => arg 2; whnf
  have HQ0 := Lib.hid hQ
  have HR1 := Lib.hid rR1
  have HR2 := Lib.hid rR2
  have HS1 := Lib.hid rS1
  have HS2 := Lib.hid rS2
  have HK1 := Lib.hid rK1
  have HK2 := Lib.hid rK2
  have HW := Lib.hid rW
  have RP := Lib.hid rP
  have RQ := Lib.hid rQ
  have HS := Lib.hid hok
  have HXL := Lib.hid hxl
  clear hQ rR1 rR2 rS1 rS2 rK1 rK2 rW rP rQ hok hxl
  go_wp2_with fail
  go_loopw [17] (fun v17 wr => ∃ (t : Nat) (p q : S5), t ≤ 80 ∧ Hid (p = line1 xs t s0) ∧ Hid (q = line2 xs t s0) ∧ v17 = .int .i64 (t : Int) ∧ IRow wr GP 57 .u32 p.list ∧ IRow wr GQ 57 .u32 q.list ∧ Below GP w5 wr) (fun v17 _ => 80 - (intOf v17).toNat)
  case atStart => exact ⟨0, s0, s0, by omega, Lib.hid rfl, Lib.hid rfl, rfl, RP.out, RQ.out, Below.refl _ _⟩
  case round =>
    obtain ⟨t, p, q, ht, hpt, hqt, rfl, hrp, hrq, hbel⟩ := hrel
    obtain ⟨wz, hwz⟩ : ∃ z : World, z = wr := ⟨_, rfl⟩
    rw [← hwz] at hrp hrq hbel ⊢
    clear hwz
    have HGPz := Lib.hid hrp
    have HGQz := Lib.hid hrq
    have HBz := Lib.hid hbel
    clear hrp hrq hbel
    by_cases h80 : t < 80
    · obtain ⟨r1, ho1, hp1, hr16⟩ := ord1_at h80
      obtain ⟨r2, ho2, hp2, hr26⟩ := ord2_at h80
      obtain ⟨u1, ht1, hv1, hu1⟩ := turn1_at h80
      obtain ⟨u2, ht2, hv2, hu2⟩ := turn2_at h80
      obtain ⟨j, hj⟩ : ∃ j, j = t / 16 := ⟨_, rfl⟩
      have hj5 : j < 5 := by omega
      obtain ⟨k1, hk1, hl1⟩ := add1_at hj5
      obtain ⟨k2, hk2, hl2⟩ := add2_at hj5
      obtain ⟨x1, hx1⟩ : ∃ x, xs[r1]? = some x := ⟨_, List.getElem?_eq_getElem (by have := HXL.out; omega)⟩
      obtain ⟨x2, hx2⟩ : ∃ x, xs[r2]? = some x := ⟨_, List.getElem?_eq_getElem (by have := HXL.out; omega)⟩
      obtain ⟨i, hi⟩ : ∃ i, i = 4 - j := ⟨_, rfl⟩
      have q1 : (t : Int) / 16 = (j : Int) := by omega
      have q2 : (t : Int).tdiv 16 = (j : Int) := by rw [Int.tdiv_eq_ediv_of_nonneg (by omega)]; omega
      have q3 : IntKind.i64.wrap (j : Int) = (j : Int) := by rw [IntWalk.i64_in _ (by omega)]
      have q4 : IntKind.i64.wrap (4 - (j : Int)) = (i : Int) := by rw [IntWalk.i64_in _ (by omega)]; omega
      have q5 : (4 : Int) - (j : Int) = (i : Int) := by omega
      have q6 : IntKind.i64.wrap (i : Int) = (i : Int) := by rw [IntWalk.i64_in _ (by omega)]
      have bt : (t : Int) < 80 := by omega
      have b1 : (r1 : Int) < 16 := by omega
      have b2 : (r2 : Int) < 16 := by omega
      have bj : (j : Int) < 5 := by omega
      have hpok : p.Ok := by rw [hpt.out]; exact line1_ok _ _ HS.out
      have hqok : q.Ok := by rw [hqt.out]; exact line2_ok _ _ HS.out
      have Hpk := Lib.hid hpok
      have Hqk := Lib.hid hqok
      have HO1 := Lib.hid ho1
      have HO2 := Lib.hid ho2
      have HT1 := Lib.hid ht1
      have HT2 := Lib.hid ht2
      have HKK1 := Lib.hid hk1
      have HKK2 := Lib.hid hk2
      have HX1 := Lib.hid hx1
      have HX2 := Lib.hid hx2
      have HP1 := Lib.hid (show line1 xs (t + 1) s0 = stepR j x1 k1 u1 p by
        rw [line1, ← hpt.out, hp1, hv1, ← hj, hl1, Int.toNat_natCast, Int.toNat_natCast, List.getD_eq_getElem?_getD, hx1]; rfl)
      have HP2 := Lib.hid (show line2 xs (t + 1) s0 = stepR i x2 k2 u2 q by
        rw [line2, ← hqt.out, hp2, hv2, ← hj, hl2, ← hi, Int.toNat_natCast, Int.toNat_natCast, List.getD_eq_getElem?_getD, hx2]; rfl)
      clear ho1 ho2 ht1 ht2 hk1 hk2 hx1 hx2 hp1 hp2 hv1 hv2 hl1 hl2 hj hi hpok hqok
      have m0 := HGPz.out.cell (i := 0) rfl
      have m1 := HGPz.out.cell (i := 1) rfl
      have m2 := HGPz.out.cell (i := 2) rfl
      have m3 := HGPz.out.cell (i := 3) rfl
      have m4 := HGPz.out.cell (i := 4) rfl
      have oc : wz.cell? ⟨R1, t, none⟩ = some (.int .i64 (r1 : Int)) := (HR1.out.below HBz.out hR1).cell HO1.out
      have tc : wz.cell? ⟨S1, t, none⟩ = some (.int .i64 (u1 : Int)) := (HS1.out.below HBz.out hS1).cell HT1.out
      have kc : wz.cell? ⟨K1, j, none⟩ = some (.int .u32 k1) := (HK1.out.below HBz.out hK1).cell HKK1.out
      have xc : wz.cell? ⟨W, r1, none⟩ = some (.int .u32 x1) := (HW.out.below HBz.out hW).cell HX1.out
      have FX := Lib.hid (fun V => rf_still j p.b p.c p.d V (by omega))
      have hcu : U32 p.c := Hpk.out.c
      have C10 := Lib.hid (fun V => rrot_still p.c 10 V hcu (by omega))
      go_wp2_with fail
      refine wp_region_still_lit (by kernel_rfl) (by kernel_rfl) ?_
      iterate 10 still_step
      still_call (FX.out _)
      obtain ⟨N1, hN1⟩ : ∃ z, z = fR j p.b p.c p.d := ⟨_, rfl⟩
      rw [← hN1]
      have HN1q := Lib.hid hN1
      clear hN1
      iterate 1 still_step
      obtain ⟨N2, hN2⟩ : ∃ z, z = IntKind.u32.wrap (p.a + N1) := ⟨_, rfl⟩
      rw [← hN2]
      have HN2q := Lib.hid hN2
      clear hN2
      iterate 6 still_step
      obtain ⟨N3, hN3⟩ : ∃ z, z = IntKind.u32.wrap (N2 + x1) := ⟨_, rfl⟩
      rw [← hN3]
      have HN3q := Lib.hid hN3
      clear hN3
      iterate 5 still_step
      obtain ⟨N4, hN4⟩ : ∃ z, z = IntKind.u32.wrap (N3 + k1) := ⟨_, rfl⟩
      rw [← hN4]
      have HN4q := Lib.hid hN4
      clear hN4
      have hN4s : N4 = sumR j x1 k1 p := by
        rw [HN4q.out, HN3q.out, HN2q.out, HN1q.out]
        simp only [u32_wrap]
        rfl
      have hN4u : U32 N4 := by rw [hN4s]; exact add32_u _ _
      have HN4 := Lib.hid hN4s
      have RX := Lib.hid (fun V => rrot_still N4 u1 V hN4u (by omega))
      clear HN1q HN2q HN3q HN4q hN4s hN4u
      iterate 3 still_step
      still_call (RX.out _)
      iterate 4 still_step
      obtain ⟨T, hT⟩ : ∃ z, z = IntKind.u32.wrap (rot32 u1 N4 + p.e) := ⟨_, rfl⟩
      rw [← hT]
      have HT := Lib.hid (show T = add32 (rot32 u1 N4) p.e by rw [hT, u32_wrap]; rfl)
      clear hT
      refine wpStill_nil ?_
      change Exit.then _ _ Exit.normal _ wz.drew
      obtain ⟨wy, hwy⟩ : ∃ z, z = wz.drew := ⟨_, rfl⟩
      rw [← hwy]
      have HGPy := Lib.hid (show IRow wy GP 57 .u32 p.list by rw [hwy]; exact HGPz.out)
      have HGQy := Lib.hid (show IRow wy GQ 57 .u32 q.list by rw [hwy]; exact HGQz.out)
      have HBy := Lib.hid (show Below GP w5 wy by rw [hwy]; exact HBz.out.drew)
      clear hwy m0 m1 m2 m3 m4 oc tc kc xc HGPz HGQz HBz
      clear wz
      have m1 := HGPy.out.cell (i := 1) rfl
      have m2 := HGPy.out.cell (i := 2) rfl
      have m3 := HGPy.out.cell (i := 3) rfl
      have m4 := HGPy.out.cell (i := 4) rfl
      go_wp2_with fail
      refine wp_region_still_tail 11 (by kernel_rfl) (by kernel_rfl) ?_
      simp only [List.take_succ_cons, List.take_zero, List.drop_succ_cons, List.drop_zero]
      change wpStill _ _ (wy.drew) _ _ _
      iterate 7 still_step
      still_call (C10.out _)
      iterate 3 still_step
      refine wpStill_nil ?_
      change wpList _ _ _ _ _ (wy.drew)
      obtain ⟨wx, hwx⟩ : ∃ z, z = wy.drew := ⟨_, rfl⟩
      rw [← hwx]
      have HGPx := Lib.hid (show IRow wx GP 57 .u32 p.list by rw [hwx]; exact HGPy.out)
      have HGQx := Lib.hid (show IRow wx GQ 57 .u32 q.list by rw [hwx]; exact HGQy.out)
      have HBx := Lib.hid (show Below GP w5 wx by rw [hwx]; exact HBy.out.drew)
      clear hwx m1 m2 m3 m4 HGPy HGQy HBy
      clear wy
      go_wp2_with (refine wpList_store_irow rfl 57 (.tmp 15) (.tmp 107) rfl (g := GP) (t := 57) (k := .u32) (xs := p.list) (ys := [p.e, T, p.b, rot32 10 p.c, p.d]) rfl rfl HGPx.out info_5 rfl ?_)
      obtain ⟨pn, hpn⟩ : ∃ z, z = stepR j x1 k1 u1 p := ⟨_, rfl⟩
      have hl1 : [p.e, T, p.b, rot32 10 p.c, p.d] = pn.list := by rw [hpn, HT.out, HN4.out]; rfl
      change Code.wp _ _ _ _ (wx.setRow GP ([p.e, T, p.b, rot32 10 p.c, p.d].map (Value.int .u32)).toArray)
      rw [hl1]
      have rPn : IRow (wx.setRow GP (pn.list.map (Value.int .u32)).toArray) GP 57 .u32 pn.list := setRow_irow HGPx.out
      have rQn : IRow (wx.setRow GP (pn.list.map (Value.int .u32)).toArray) GQ 57 .u32 q.list := HGQx.out.turns ((Turns.refl (· = GP) wx).setRow (fun _ => rfl) _) (by omega)
      have bn := below_setRow HBx.out (Nat.le_refl GP) (pn.list.map (Value.int .u32)).toArray
      obtain ⟨wz, hwz⟩ : ∃ z, z = wx.setRow GP (pn.list.map (Value.int .u32)).toArray := ⟨_, rfl⟩
      rw [← hwz] at rPn rQn bn ⊢
      have HGPz := Lib.hid rPn
      have HGQz := Lib.hid rQn
      have HBz := Lib.hid bn
      have HPN := Lib.hid hpn
      clear hwz rPn rQn bn hl1 HT HN4 FX RX C10 HGPx HGQx HBx hpn hcu
      clear wx
      generalize rot32 u1 N4 = Y1 at *
      generalize rot32 10 p.c = Y2 at *
      try dsimp only [Act.put]
      have m0 := HGQz.out.cell (i := 0) rfl
      have m1 := HGQz.out.cell (i := 1) rfl
      have m2 := HGQz.out.cell (i := 2) rfl
      have m3 := HGQz.out.cell (i := 3) rfl
      have m4 := HGQz.out.cell (i := 4) rfl
      have oc : wz.cell? ⟨R2, t, none⟩ = some (.int .i64 (r2 : Int)) := (HR2.out.below HBz.out hR2).cell HO2.out
      have tc : wz.cell? ⟨S2, t, none⟩ = some (.int .i64 (u2 : Int)) := (HS2.out.below HBz.out hS2).cell HT2.out
      have kc : wz.cell? ⟨K2, j, none⟩ = some (.int .u32 k2) := (HK2.out.below HBz.out hK2).cell HKK2.out
      have xc : wz.cell? ⟨W, r2, none⟩ = some (.int .u32 x2) := (HW.out.below HBz.out hW).cell HX2.out
      have FX := Lib.hid (fun V => rf_still i q.b q.c q.d V (by omega))
      have hcu : U32 q.c := Hqk.out.c
      have C10 := Lib.hid (fun V => rrot_still q.c 10 V hcu (by omega))
      go_wp2_with fail
      refine wp_region_still_lit (by kernel_rfl) (by kernel_rfl) ?_
      iterate 11 still_step
      still_call (FX.out _)
      obtain ⟨N1, hN1⟩ : ∃ z, z = fR i q.b q.c q.d := ⟨_, rfl⟩
      rw [← hN1]
      have HN1q := Lib.hid hN1
      clear hN1
      iterate 1 still_step
      obtain ⟨N2, hN2⟩ : ∃ z, z = IntKind.u32.wrap (q.a + N1) := ⟨_, rfl⟩
      rw [← hN2]
      have HN2q := Lib.hid hN2
      clear hN2
      iterate 6 still_step
      obtain ⟨N3, hN3⟩ : ∃ z, z = IntKind.u32.wrap (N2 + x2) := ⟨_, rfl⟩
      rw [← hN3]
      have HN3q := Lib.hid hN3
      clear hN3
      iterate 5 still_step
      obtain ⟨N4, hN4⟩ : ∃ z, z = IntKind.u32.wrap (N3 + k2) := ⟨_, rfl⟩
      rw [← hN4]
      have HN4q := Lib.hid hN4
      clear hN4
      have hN4s : N4 = sumR i x2 k2 q := by
        rw [HN4q.out, HN3q.out, HN2q.out, HN1q.out]
        simp only [u32_wrap]
        rfl
      have hN4u : U32 N4 := by rw [hN4s]; exact add32_u _ _
      have HN4 := Lib.hid hN4s
      have RX := Lib.hid (fun V => rrot_still N4 u2 V hN4u (by omega))
      clear HN1q HN2q HN3q HN4q hN4s hN4u
      iterate 3 still_step
      still_call (RX.out _)
      iterate 4 still_step
      obtain ⟨T, hT⟩ : ∃ z, z = IntKind.u32.wrap (rot32 u2 N4 + q.e) := ⟨_, rfl⟩
      rw [← hT]
      have HT := Lib.hid (show T = add32 (rot32 u2 N4) q.e by rw [hT, u32_wrap]; rfl)
      clear hT
      refine wpStill_nil ?_
      change Exit.then _ _ Exit.normal _ wz.drew
      obtain ⟨wy, hwy⟩ : ∃ z, z = wz.drew := ⟨_, rfl⟩
      rw [← hwy]
      have HGQy := Lib.hid (show IRow wy GQ 57 .u32 q.list by rw [hwy]; exact HGQz.out)
      have HGPy := Lib.hid (show IRow wy GP 57 .u32 pn.list by rw [hwy]; exact HGPz.out)
      have HBy := Lib.hid (show Below GP w5 wy by rw [hwy]; exact HBz.out.drew)
      clear hwy m0 m1 m2 m3 m4 oc tc kc xc HGPz HGQz HBz
      clear wz
      have m1 := HGQy.out.cell (i := 1) rfl
      have m2 := HGQy.out.cell (i := 2) rfl
      have m3 := HGQy.out.cell (i := 3) rfl
      have m4 := HGQy.out.cell (i := 4) rfl
      go_wp2_with fail
      refine wp_region_still_tail 11 (by kernel_rfl) (by kernel_rfl) ?_
      simp only [List.take_succ_cons, List.take_zero, List.drop_succ_cons, List.drop_zero]
      change wpStill _ _ (wy.drew) _ _ _
      iterate 7 still_step
      still_call (C10.out _)
      iterate 3 still_step
      refine wpStill_nil ?_
      change wpList _ _ _ _ _ (wy.drew)
      obtain ⟨wx, hwx⟩ : ∃ z, z = wy.drew := ⟨_, rfl⟩
      rw [← hwx]
      have HGQx := Lib.hid (show IRow wx GQ 57 .u32 q.list by rw [hwx]; exact HGQy.out)
      have HGPx := Lib.hid (show IRow wx GP 57 .u32 pn.list by rw [hwx]; exact HGPy.out)
      have HBx := Lib.hid (show Below GP w5 wx by rw [hwx]; exact HBy.out.drew)
      clear hwx m1 m2 m3 m4 HGPy HGQy HBy
      clear wy
      go_wp2_with (refine wpList_store_irow rfl 57 (.tmp 16) (.tmp 149) rfl (g := GQ) (t := 57) (k := .u32) (xs := q.list) (ys := [q.e, T, q.b, rot32 10 q.c, q.d]) rfl rfl HGQx.out info_5 rfl ?_)
      obtain ⟨qn, hqn⟩ : ∃ z, z = stepR i x2 k2 u2 q := ⟨_, rfl⟩
      have hl2 : [q.e, T, q.b, rot32 10 q.c, q.d] = qn.list := by rw [hqn, HT.out, HN4.out]; rfl
      have rQn : IRow (wx.setRow GQ ([q.e, T, q.b, rot32 10 q.c, q.d].map (Value.int .u32)).toArray) GQ 57 .u32 [q.e, T, q.b, rot32 10 q.c, q.d] := setRow_irow HGQx.out
      have rPn : IRow (wx.setRow GQ ([q.e, T, q.b, rot32 10 q.c, q.d].map (Value.int .u32)).toArray) GP 57 .u32 pn.list := HGPx.out.turns ((Turns.refl (· = GQ) wx).setRow (fun _ => rfl) _) (by omega)
      have bn := below_setRow HBx.out (show GP ≤ GQ by omega) ([q.e, T, q.b, rot32 10 q.c, q.d].map (Value.int .u32)).toArray
      refine ⟨⟨t + 1, pn, qn, by omega, Lib.hid ?_, Lib.hid ?_, by go_num, rPn, ?_, bn⟩, by simp [intOf]; omega⟩
      · rw [HP1.out, HPN.out]
      · rw [HP2.out, hqn]
      · rw [← hl2]; exact rQn
    · obtain rfl : t = 80 := by omega
      have e80 : ((80 : Nat) : Int) = 80 := rfl
      rw [e80]
      have HR := Lib.hid (show IRow wz GP 57 .u32 (line1 xs 80 s0).list by rw [← hpt.out]; exact HGPz.out)
      have HR2 := Lib.hid (show IRow wz GQ 57 .u32 (line2 xs 80 s0).list by rw [← hqt.out]; exact HGQz.out)
      clear hpt hqt e80 h80 ht
      go_wp2_with fail
      exact HQ0.out _ _ _ _ _ _ _ _ _ _ _ _ _ _ _ _ _ _ _ _ _ _ _ _ _ _ _ _ _ _ _ _ _ _ _ _ _ _ _ _ _ _ _ _ _ _ _ _ _ _ _ _ _ _ _ _ _ _ _ _ _ _ _ _ _ _ _ _ _ _ _ _ _ _ _ _ _ _ _ _ _ _ _ _ _ _ _ _ _ _ HR.out HR2.out HBz.out
end Go.Proofs.YtpcopimbnbmkmaaDoor.Rm

/-
  The reference's Ripemd: the words as bytes; what closes a message. Conditions: none.
-/
namespace Go.Proofs.YtpcopimbnbmkmaaDoor.Rm
open Go.RowKit

theorem fillG_R (m : List UInt8) : fillG m 64 8 true = fullR m := by
  unfold fillG fullR padR
  have e : zeroG m.length 64 8 = (119 - m.length % 64) % 64 := by unfold zeroG; omega
  rw [e]
  simp only [if_true, ← b8_lenB, List.reverse_reverse, List.append_assoc]
theorem rev_parts {x : Int} (h : U32 x) : ∃ b0 b1 b2 b3 : Int, b0 = x % 256 ∧ b1 = x / 256 % 256 ∧ b2 = x / 65536 % 256 ∧ b3 = x / 16777216 % 256 ∧ (0 ≤ b0 ∧ b0 < 256) ∧ (0 ≤ b1 ∧ b1 < 256) ∧ (0 ≤ b2 ∧ b2 < 256) ∧ (0 ≤ b3 ∧ b3 < 256) ∧ rev32 x = b0 * 16777216 + b1 * 65536 + b2 * 256 + b3 := by
  obtain ⟨h0, h1⟩ := h
  refine ⟨_, _, _, _, rfl, rfl, rfl, rfl, by omega, by omega, by omega, by omega, ?_⟩
  unfold rev32
  have : x / 16777216 % 256 = x / 16777216 := by omega
  rw [this]
theorem outR_at (hs : List Int) {i : Nat} {x : Int} (h : hs[i / 4]? = some x) (hx : U32 x) : (nums (outR hs))[i]? = some (x / 2 ^ (8 * (i % 4)) % 256) := by
  unfold outR
  rw [outB_at (hs.map rev32) (i := i) (x := rev32 x) (by rw [List.getElem?_map, h]; rfl) (rev32_u hx)]
  obtain ⟨b0, b1, b2, b3, h0, h1, h2, h3, g0, g1, g2, g3, hr⟩ := rev_parts hx
  have hc : i % 4 = 0 ∨ i % 4 = 1 ∨ i % 4 = 2 ∨ i % 4 = 3 := by omega
  congr 1
  rw [hr]
  rcases hc with e | e | e | e
  · rw [e]; show (b0 * 16777216 + b1 * 65536 + b2 * 256 + b3) / 16777216 % 256 = x / 1 % 256; rw [Int.ediv_one, ← h0]; clear h0 h1 h2 h3 hr; omega
  · rw [e]; show (b0 * 16777216 + b1 * 65536 + b2 * 256 + b3) / 65536 % 256 = x / 256 % 256; rw [← h1]; clear h0 h1 h2 h3 hr; omega
  · rw [e]; show (b0 * 16777216 + b1 * 65536 + b2 * 256 + b3) / 256 % 256 = x / 65536 % 256; rw [← h2]; clear h0 h1 h2 h3 hr; omega
  · rw [e]; show (b0 * 16777216 + b1 * 65536 + b2 * 256 + b3) / 1 % 256 = x / 16777216 % 256; rw [Int.ediv_one, ← h3]; clear h0 h1 h2 h3 hr; omega
set_option maxRecDepth 1000000 in
set_option maxHeartbeats 6400000 in
theorem rb8_any {Q : Exit → Act → World → Prop} (BH G : Nat) (s : S5) (w8 : World) (hok : s.Ok) (hHG : BH < G) (rH : IRow w8 BH 57 .u32 s.list) (rG : IRow w8 G 33 .u8 (List.replicate 20 0)) (u0 u1 u2 u3 u4 u5 u6 u7 u8 u10 u11 u12 u13 u14 u15 u16 u17 u18 u21 u22 u23 u24 u25 u26 u27 u28 u29 u30 u31 u32 u33 u34 u35 u36 u37 u38 u39 u40 u41 u42 u43 u44 u45 u46 u47 u48 u49 u50 u51 u52 u53 u54 u55 u56 u57 u58 u59 u60 u61 u62 u63 u64 u65 u66 u67 u68 u69 u70 u71 u72 u73 u74 u75 u76 u77 u78 u79 u80 u81 u82 u83 u84 u85 u86 u87 u88 u89 u90 u91 u92 u93 u94 u95 u96 u97 u98 u99 u100 u101 u102 u103 u104 u105 u106 u107 u108 u109 u110 u111 u112 u113 u114 u115 u116 u117 u118 u119 u120 u121 u122 u123 u124 u125 u126 u127 u128 u129 u130 u131 u132 u133 u134 u135 u136 u137 u138 u139 u140 u141 u142 u143 u144 u145 u146 u147 u148 u149 u150 u151 u152 u153 u154 u155 u156 u157 u158 u159 u160 u161 u162 u163 u164 u165 u166 u167 u168 u169 u170 u171 u172 u173 u174 u175 u176 u177 u178 u179 u180 u181 u182 u183 u184 u185 u186 u187 u188 u189 u190 u191 u192 u193 u194 u195 u196 u197 u198 u199 u200 u201 u202 u203 u204 u205 u206 u207 : Value)
    (_hPan : ∀ (c : List PanicEntry) (a : Act) (d : Tmp) (v : Value) (w : World), Q (.panic c) (a.put (some d) v) w → Q (.panic c) a w)
    (hQ : ∀ (v20 v191 v192 v193 v194 v195 v196 v197 v198 v199 v200 v201 v202 v203 v204 v205 v206 : Value) (w' : World), IRow w' G 33 .u8 (nums (outR s.list)) → Below G w8 w' → Q .normal ⟨#[u0, u1, u2, u3, u4, u5, u6, u7, u8, .pointer (some ⟨BH, 0, none⟩), u10, u11, u12, u13, u14, u15, u16, u17, u18, .pointer (some ⟨G, 0, none⟩), v20, u21, u22, u23, u24, u25, u26, u27, u28, u29, u30, u31, u32, u33, u34, u35, u36, u37, u38, u39, u40, u41, u42, u43, u44, u45, u46, u47, u48, u49, u50, u51, u52, u53, u54, u55, u56, u57, u58, u59, u60, u61, u62, u63, u64, u65, u66, u67, u68, u69, u70, u71, u72, u73, u74, u75, u76, u77, u78, u79, u80, u81, u82, u83, u84, u85, u86, u87, u88, u89, u90, u91, u92, u93, u94, u95, u96, u97, u98, u99, u100, u101, u102, u103, u104, u105, u106, u107, u108, u109, u110, u111, u112, u113, u114, u115, u116, u117, u118, u119, u120, u121, u122, u123, u124, u125, u126, u127, u128, u129, u130, u131, u132, u133, u134, u135, u136, u137, u138, u139, u140, u141, u142, u143, u144, u145, u146, u147, u148, u149, u150, u151, u152, u153, u154, u155, u156, u157, u158, u159, u160, u161, u162, u163, u164, u165, u166, u167, u168, u169, u170, u171, u172, u173, u174, u175, u176, u177, u178, u179, u180, u181, u182, u183, u184, u185, u186, u187, u188, u189, u190, v191, v192, v193, v194, v195, v196, v197, v198, v199, v200, v201, v202, v203, v204, v205, v206, u207], []⟩ w') :
    Code.wp Tryd.prog (blkOf 8 Tryd.f13) Q ⟨#[u0, u1, u2, u3, u4, u5, u6, u7, u8, .pointer (some ⟨BH, 0, none⟩), u10, u11, u12, u13, u14, u15, u16, u17, u18, .pointer (some ⟨G, 0, none⟩), .int .i64 0, u21, u22, u23, u24, u25, u26, u27, u28, u29, u30, u31, u32, u33, u34, u35, u36, u37, u38, u39, u40, u41, u42, u43, u44, u45, u46, u47, u48, u49, u50, u51, u52, u53, u54, u55, u56, u57, u58, u59, u60, u61, u62, u63, u64, u65, u66, u67, u68, u69, u70, u71, u72, u73, u74, u75, u76, u77, u78, u79, u80, u81, u82, u83, u84, u85, u86, u87, u88, u89, u90, u91, u92, u93, u94, u95, u96, u97, u98, u99, u100, u101, u102, u103, u104, u105, u106, u107, u108, u109, u110, u111, u112, u113, u114, u115, u116, u117, u118, u119, u120, u121, u122, u123, u124, u125, u126, u127, u128, u129, u130, u131, u132, u133, u134, u135, u136, u137, u138, u139, u140, u141, u142, u143, u144, u145, u146, u147, u148, u149, u150, u151, u152, u153, u154, u155, u156, u157, u158, u159, u160, u161, u162, u163, u164, u165, u166, u167, u168, u169, u170, u171, u172, u173, u174, u175, u176, u177, u178, u179, u180, u181, u182, u183, u184, u185, u186, u187, u188, u189, u190, u191, u192, u193, u194, u195, u196, u197, u198, u199, u200, u201, u202, u203, u204, u205, u206, u207], []⟩ w8 := by
  conv => arg 2; whnf
  have HQ := Lib.hid hQ
  have RH := Lib.hid rH
  have RG := Lib.hid rG
  have HOK := Lib.hid hok
  have HOL := Lib.hid (show (nums (outR s.list)).length = 20 by rw [nums_length, outR_length]; rfl)
  clear hQ rH rG hok
  go_wp2_with fail
  go_loopw [20] (fun v20 wr => ∃ i : Nat, i ≤ 20 ∧ v20 = .int .i64 (i : Int) ∧ IRow wr G 33 .u8 (padZ 20 ((nums (outR s.list)).take i)) ∧ Below G w8 wr) (fun v20 _ => 20 - (intOf v20).toNat)
  case atStart => exact ⟨0, by omega, rfl, RG.out, Below.refl _ _⟩
  case round =>
    obtain ⟨i, hi, rfl, hrow, hbel⟩ := hrel
    by_cases h20 : i < 20
    · obtain ⟨q, hq⟩ : ∃ q, q = i / 4 := ⟨_, rfl⟩
      obtain ⟨r, hr⟩ : ∃ r, r = i % 4 := ⟨_, rfl⟩
      obtain ⟨sh, hsh⟩ : ∃ sh, sh = 8 * r := ⟨_, rfl⟩
      have e1 : (i : Int) / 4 = (q : Int) := by omega
      have e2 : (i : Int) % 4 = (r : Int) := by omega
      have e3 : 8 * (r : Int) = (sh : Int) := by omega
      have bq : (q : Int) < 5 := by omega
      have bs32 : sh ≤ 24 := by omega
      have b20 : (i : Int) < 20 := by omega
      obtain ⟨x, hx⟩ : ∃ x, s.list[q]? = some x := ⟨_, List.getElem?_eq_getElem (by have : s.list.length = 5 := rfl; omega)⟩
      have hxu : U32 x := S5.mem_ok HOK.out (List.mem_of_getElem? hx)
      have hat := outR_at s.list (i := i) (x := x) (by rw [← hq]; exact hx) hxu
      rw [← hr, ← hsh] at hat
      have hcx : wr.cell? ⟨BH, q, none⟩ = some (.int .u32 x) := (RH.out.below hbel hHG).cell hx
      have htl : ((nums (outR s.list)).take i).length = i := by rw [List.length_take, HOL.out]; omega
      have hcg : wr.cell? ⟨G, i, none⟩ = some (.int .u8 0) := hrow.cell (by have h := padZ_next (n := 20) (l := (nums (outR s.list)).take i) (by omega); rw [htl] at h; exact h)
      have hfg := hrow.free i
      have hset := hrow.set i (x / 2 ^ sh % 256)
      have hpz := padZ_set (n := 20) (l := (nums (outR s.list)).take i) (z := x / 2 ^ sh % 256) (by omega)
      rw [htl] at hpz
      have htk : (nums (outR s.list)).take i ++ [x / 2 ^ sh % 256] = (nums (outR s.list)).take (i + 1) := by rw [List.take_add_one, hat]; rfl
      rw [hpz, htk] at hset
      have HSET := Lib.hid hset
      have HBEL := Lib.hid hbel
      clear hx hxu hat htl hpz htk hset hrow hbel hq hr hsh
      go_wp2_with fail
      exact ⟨⟨i + 1, by omega, by go_num, HSET.out, HBEL.out.setCell (p := ⟨G, i, none⟩) (Nat.le_refl _) _⟩, by simp [intOf]; omega⟩
    · obtain rfl : i = 20 := by omega
      have e20 : ((20 : Nat) : Int) = 20 := rfl
      rw [e20]
      rw [List.take_of_length_le (by rw [HOL.out]; omega), padZ_full HOL.out] at hrow
      have HR := Lib.hid hrow
      have HBEL := Lib.hid hbel
      clear e20 hrow hbel h20
      go_wp2_with fail
      exact HQ.out _ _ _ _ _ _ _ _ _ _ _ _ _ _ _ _ _ _ HR.out HBEL.out
end Go.Proofs.YtpcopimbnbmkmaaDoor.Rm
