/-
  Texts joined: RB10, RSum, RDouble, B5M, TEq, B5K, B5L, B5Q, TSpare. Conditions: those of each.
-/
import Derived.Test.YtehodjbjioepnaaDoorJ6
import Derived.Deep.CutBlock
import Derived.Test.YtehodjbjioepnaaDoorJ3
import Derived.Test.YtehodjbjioepnaaDoorJ4
import Derived.Test.YtehodjbjioepnaaDoorJ1
import Derived.Deep.RegionHeld
import Derived.OrdersHeld
/-
  The reference's Sum256: what a block adds to the words; and the words as bytes. Conditions: none.
-/
namespace Go.Proofs.YtehodjbjioepnaaDoor
open Go.RowKit

set_option maxRecDepth 1000000 in
set_option maxHeartbeats 6400000 in
theorem rb10_any {Q : Exit → Act → World → Prop} (BH V : Nat) (s v : S8) (w7 : World) (hne : V ≠ BH) (rH : IRow w7 BH 63 .u32 s.list) (rV : IRow w7 V 63 .u32 v.list) (u0 u1 u2 u3 u5 u6 u7 u8 u9 u10 u11 u12 u14 u15 u16 u18 u19 u20 u21 u22 u23 u24 u25 u26 u27 u28 u29 u30 u31 u32 u33 u34 u35 u36 u37 u38 u39 u40 u41 u42 u43 u44 u45 u46 u47 u48 u49 u50 u51 u52 u53 u54 u55 u56 u57 u58 u59 u60 u61 u62 u63 u64 u65 u66 u67 u68 u69 u70 u71 u72 u73 u74 u75 u76 u77 u78 u79 u80 u81 u82 u83 u84 u85 u86 u87 u88 u89 u90 u91 u92 u93 u94 u95 u96 u97 u98 u99 u100 u101 u102 u103 u104 u105 u106 u107 u108 u109 u110 u111 u112 u113 u114 u115 u116 u117 u118 u119 u120 u121 u122 u123 u124 u125 u126 u127 u128 u129 u130 u131 u132 u133 u134 u135 u136 u137 u138 u139 u140 u141 u142 u143 u144 u145 u146 u147 u148 u149 u150 u151 u152 u153 u154 u155 u156 u157 u158 u159 u160 u161 u162 u163 u164 u165 u166 u167 u168 u169 u170 u171 u172 u173 u174 u175 u176 u177 u178 u179 u180 u181 u182 u183 u184 u185 u186 u187 u188 u189 u190 u191 u192 u193 u194 u195 u196 u197 u198 u199 u200 u201 u202 u203 u204 u205 u206 u207 u208 u209 u210 u211 u212 u213 u214 u215 u216 u217 u218 u219 u220 u221 u222 u223 u224 u225 u226 u227 : Value)
    (hPan : ∀ (c : List PanicEntry) (a : Act) (d : Tmp) (v : Value) (w : World), Q (.panic c) (a.put (some d) v) w → Q (.panic c) a w)
    (hQ : ∀ (v17 v197 v198 v199 v200 v201 v202 v203 v204 v205 v206 v207 v208 v209 : Value) (w' : World), IRow w' BH 63 .u32 (mix s.list v.list 8) → Turns (· = BH) w7 w' → Q .normal ⟨#[u0, u1, u2, u3, .pointer (some ⟨BH, 0, none⟩), u5, u6, u7, u8, u9, u10, u11, u12, .pointer (some ⟨V, 0, none⟩), u14, u15, u16, v17, u18, u19, u20, u21, u22, u23, u24, u25, u26, u27, u28, u29, u30, u31, u32, u33, u34, u35, u36, u37, u38, u39, u40, u41, u42, u43, u44, u45, u46, u47, u48, u49, u50, u51, u52, u53, u54, u55, u56, u57, u58, u59, u60, u61, u62, u63, u64, u65, u66, u67, u68, u69, u70, u71, u72, u73, u74, u75, u76, u77, u78, u79, u80, u81, u82, u83, u84, u85, u86, u87, u88, u89, u90, u91, u92, u93, u94, u95, u96, u97, u98, u99, u100, u101, u102, u103, u104, u105, u106, u107, u108, u109, u110, u111, u112, u113, u114, u115, u116, u117, u118, u119, u120, u121, u122, u123, u124, u125, u126, u127, u128, u129, u130, u131, u132, u133, u134, u135, u136, u137, u138, u139, u140, u141, u142, u143, u144, u145, u146, u147, u148, u149, u150, u151, u152, u153, u154, u155, u156, u157, u158, u159, u160, u161, u162, u163, u164, u165, u166, u167, u168, u169, u170, u171, u172, u173, u174, u175, u176, u177, u178, u179, u180, u181, u182, u183, u184, u185, u186, u187, u188, u189, u190, u191, u192, u193, u194, u195, u196, v197, v198, v199, v200, v201, v202, v203, v204, v205, v206, v207, v208, v209, u210, u211, u212, u213, u214, u215, u216, u217, u218, u219, u220, u221, u222, u223, u224, u225, u226, u227], []⟩ w') :
    Code.wp Tryd.prog (blkOf 10 Tryd.f34) Q ⟨#[u0, u1, u2, u3, .pointer (some ⟨BH, 0, none⟩), u5, u6, u7, u8, u9, u10, u11, u12, .pointer (some ⟨V, 0, none⟩), u14, u15, u16, .int .i64 0, u18, u19, u20, u21, u22, u23, u24, u25, u26, u27, u28, u29, u30, u31, u32, u33, u34, u35, u36, u37, u38, u39, u40, u41, u42, u43, u44, u45, u46, u47, u48, u49, u50, u51, u52, u53, u54, u55, u56, u57, u58, u59, u60, u61, u62, u63, u64, u65, u66, u67, u68, u69, u70, u71, u72, u73, u74, u75, u76, u77, u78, u79, u80, u81, u82, u83, u84, u85, u86, u87, u88, u89, u90, u91, u92, u93, u94, u95, u96, u97, u98, u99, u100, u101, u102, u103, u104, u105, u106, u107, u108, u109, u110, u111, u112, u113, u114, u115, u116, u117, u118, u119, u120, u121, u122, u123, u124, u125, u126, u127, u128, u129, u130, u131, u132, u133, u134, u135, u136, u137, u138, u139, u140, u141, u142, u143, u144, u145, u146, u147, u148, u149, u150, u151, u152, u153, u154, u155, u156, u157, u158, u159, u160, u161, u162, u163, u164, u165, u166, u167, u168, u169, u170, u171, u172, u173, u174, u175, u176, u177, u178, u179, u180, u181, u182, u183, u184, u185, u186, u187, u188, u189, u190, u191, u192, u193, u194, u195, u196, u197, u198, u199, u200, u201, u202, u203, u204, u205, u206, u207, u208, u209, u210, u211, u212, u213, u214, u215, u216, u217, u218, u219, u220, u221, u222, u223, u224, u225, u226, u227], []⟩ w7 := by
  conv => arg 2; whnf
  have HQ := Lib.hid hQ
  have RH := Lib.hid rH
  have RV := Lib.hid rV
  clear hQ rH rV
  go_wp2_with fail
  go_loopw [17] (fun v17 wr => ∃ i : Nat, i ≤ 8 ∧ v17 = .int .i64 (i : Int) ∧ IRow wr BH 63 .u32 (mix s.list v.list i) ∧ Turns (· = BH) w7 wr) (fun v17 _ => 8 - (intOf v17).toNat)
  case atStart => exact ⟨0, by omega, rfl, RH.out, Turns.refl _ _⟩
  case round =>
    obtain ⟨i, hi, rfl, hrow, htt⟩ := hrel
    by_cases h8 : i < 8
    · obtain ⟨l, hl⟩ : ∃ l, l = s.list.getD i 0 := ⟨_, rfl⟩
      obtain ⟨z, hz⟩ : ∃ z, v.list[i]? = some z := ⟨_, List.getElem?_eq_getElem (by have : v.list.length = 8 := rfl; omega)⟩
      have hat := hrow.cell (mix_at s.list v.list h8)
      rw [← hl] at hat
      have hcv : wr.cell? ⟨V, i, none⟩ = some (.int .u32 z) := (RV.out.turns htt hne).cell hz
      have hset := hrow.set i (add32 (s.list.getD i 0) (v.list.getD i 0))
      have hzd : v.list.getD i 0 = z := by rw [List.getD_eq_getElem?_getD, hz]; rfl
      rw [mix_next _ _ h8, hzd, ← hl] at hset
      have hfr := hrow.free i
      have b8 : (i : Int) < 8 := by omega
      have HSET := Lib.hid (show IRow (wr.setCell ⟨BH, i, none⟩ (.int .u32 (IntKind.u32.wrap (l + z)))) BH 63 .u32 (mix s.list v.list (i + 1)) by rw [u32_wrap]; exact hset)
      have HTT := Lib.hid htt
      clear hl hz hzd hset hrow htt
      go_wp2_with fail
      refine wp_region_held_drew (S := (fun w' => w'.cell? ⟨V, i, none⟩ = some (.int .u32 z))) (by kernel_rfl) ?_ (fun hHeld => ?_)
      · exact hcv
      refine wpAnyH_take (i := 0) (oi := { dst := some 201, op := Go.Op.move (Go.Operand.tmp 17), type := 3, pos := "ref.go:57", after := #[], guard := none }) (v := ?av0) rfl (by kernel_rfl) (by kernel_rfl) (by kernel_rfl) (fun _ _ _ h => hPan _ _ _ _ _ h) (Or.inl ⟨by rfl, ?ay0⟩) (by assumption) ?ar0
      case ay0 => (intro w hSw; (try dsimp only at hSw); go_simp; try (with_reducible rfl))
      case ar0 =>
      try simp only [Act.put, List.setIfInBounds_toArray, List.set_cons_zero, List.set_cons_succ]
      refine wpAnyH_take (i := 1) (oi := { dst := some 202, op := Go.Op.move (Go.Operand.tmp 17), type := 3, pos := "ref.go:57", after := #[], guard := none }) (v := ?av1) rfl (by kernel_rfl) (by kernel_rfl) (by kernel_rfl) (fun _ _ _ h => hPan _ _ _ _ _ h) (Or.inl ⟨by rfl, ?ay1⟩) (by assumption) ?ar1
      case ay1 => (intro w hSw; (try dsimp only at hSw); go_simp; try (with_reducible rfl))
      case ar1 =>
      try simp only [Act.put, List.setIfInBounds_toArray, List.set_cons_zero, List.set_cons_succ]
      refine wpAnyH_take (i := 2) (oi := { dst := some 203, op := Go.Op.indexAddr 63 (Go.Operand.tmp 4) (Go.Operand.tmp 202), type := 0, pos := "ref.go:57", after := #[{ on := 1, ground := Go.Ground.data }], guard := none }) (v := ?av2) rfl (by kernel_rfl) (by kernel_rfl) (by kernel_rfl) (fun _ _ _ h => hPan _ _ _ _ _ h) (Or.inl ⟨by rfl, ?ay2⟩) (by assumption) ?ar2
      case ay2 => (intro w hSw; (try dsimp only at hSw); go_simp; try (with_reducible rfl))
      case ar2 =>
      try simp only [Act.put, List.setIfInBounds_toArray, List.set_cons_zero, List.set_cons_succ]
      refine wpAnyH_take (i := 4) (oi := { dst := some 205, op := Go.Op.move (Go.Operand.tmp 17), type := 3, pos := "ref.go:57", after := #[], guard := none }) (v := ?av4) rfl (by kernel_rfl) (by kernel_rfl) (by kernel_rfl) (fun _ _ _ h => hPan _ _ _ _ _ h) (Or.inl ⟨by rfl, ?ay4⟩) (by assumption) ?ar4
      case ay4 => (intro w hSw; (try dsimp only at hSw); go_simp; try (with_reducible rfl))
      case ar4 =>
      try simp only [Act.put, List.setIfInBounds_toArray, List.set_cons_zero, List.set_cons_succ]
      refine wpAnyH_take (i := 5) (oi := { dst := some 206, op := Go.Op.indexAddr 63 (Go.Operand.tmp 13) (Go.Operand.tmp 205), type := 0, pos := "ref.go:57", after := #[{ on := 4, ground := Go.Ground.data }], guard := none }) (v := ?av5) rfl (by kernel_rfl) (by kernel_rfl) (by kernel_rfl) (fun _ _ _ h => hPan _ _ _ _ _ h) (Or.inl ⟨by rfl, ?ay5⟩) (by assumption) ?ar5
      case ay5 => (intro w hSw; (try dsimp only at hSw); go_simp; try (with_reducible rfl))
      case ar5 =>
      try simp only [Act.put, List.setIfInBounds_toArray, List.set_cons_zero, List.set_cons_succ]
      refine wpAnyH_take (i := 6) (oi := { dst := some 207, op := Go.Op.load 61 (Go.Operand.tmp 206), type := 61, pos := "ref.go:57", after := #[{ on := 5, ground := Go.Ground.data }], guard := none }) (v := ?av6) rfl (by kernel_rfl) (by kernel_rfl) (by kernel_rfl) (fun _ _ _ h => hPan _ _ _ _ _ h) (Or.inl ⟨by rfl, ?ay6⟩) (by assumption) ?ar6
      case ay6 => (intro w hSw; (try dsimp only at hSw); go_simp; try (with_reducible rfl))
      case ar6 =>
      try simp only [Act.put, List.setIfInBounds_toArray, List.set_cons_zero, List.set_cons_succ]
      refine wpAnyH_ready (rs := [3]) (by kernel_rfl) (by simp) ?_
      refine AllReadyH.cons (o := { dst := some 204, op := Go.Op.load 61 (Go.Operand.tmp 203), type := 61, pos := "ref.go:57", after := #[{ on := 2, ground := Go.Ground.data }], guard := none }) rfl (fun K hK => ?_) (AllReadyH.nil)
      go_simp
      refine hK.out _ _ ?_ (fun hHeld => ?_)
      · exact hHeld
      clear hK K
      try simp only [Act.put, List.setIfInBounds_toArray, List.set_cons_zero, List.set_cons_succ]
      refine wpAnyH_take (i := 7) (oi := { dst := some 208, op := Go.Op.binOp Go.BinOp.add 61 (Go.Operand.tmp 204) (Go.Operand.tmp 207) 61, type := 61, pos := "ref.go:57", after := #[{ on := 3, ground := Go.Ground.data }, { on := 6, ground := Go.Ground.data }], guard := none }) (v := ?a_3v7) rfl (by kernel_rfl) (by kernel_rfl) (by kernel_rfl) (fun _ _ _ h => hPan _ _ _ _ _ h) (Or.inl ⟨by rfl, ?a_3y7⟩) (by assumption) ?a_3r7
      case a_3y7 => (intro w hSw; (try dsimp only at hSw); go_simp; try (with_reducible rfl))
      case a_3r7 =>
      try simp only [Act.put, List.setIfInBounds_toArray, List.set_cons_zero, List.set_cons_succ]
      refine wpAnyH_take (i := 8) (oi := { dst := some 209, op := Go.Op.indexAddr 63 (Go.Operand.tmp 4) (Go.Operand.tmp 201), type := 0, pos := "ref.go:57", after := #[{ on := 0, ground := Go.Ground.data }, { on := 0, ground := Go.Ground.phase }, { on := 1, ground := Go.Ground.phase }, { on := 2, ground := Go.Ground.phase }, { on := 3, ground := Go.Ground.phase }, { on := 4, ground := Go.Ground.phase }, { on := 5, ground := Go.Ground.phase }, { on := 6, ground := Go.Ground.phase }, { on := 7, ground := Go.Ground.phase }], guard := none }) (v := ?a_3v8) rfl (by kernel_rfl) (by kernel_rfl) (by kernel_rfl) (fun _ _ _ h => hPan _ _ _ _ _ h) (Or.inl ⟨by rfl, ?a_3y8⟩) (by assumption) ?a_3r8
      case a_3y8 => (intro w hSw; (try dsimp only at hSw); go_simp; try (with_reducible rfl))
      case a_3r8 =>
      try simp only [Act.put, List.setIfInBounds_toArray, List.set_cons_zero, List.set_cons_succ]
      refine wpAnyH_ready (rs := [9]) (by kernel_rfl) (by simp) ?_
      refine AllReadyH.cons (o := { dst := none, op := Go.Op.store 61 (Go.Operand.tmp 209) (Go.Operand.tmp 208), type := 0, pos := "ref.go:57", after := #[{ on := 8, ground := Go.Ground.data }, { on := 7, ground := Go.Ground.data }, { on := 0, ground := Go.Ground.phase }, { on := 1, ground := Go.Ground.phase }, { on := 2, ground := Go.Ground.phase }, { on := 3, ground := Go.Ground.phase }, { on := 4, ground := Go.Ground.phase }, { on := 5, ground := Go.Ground.phase }, { on := 6, ground := Go.Ground.phase }, { on := 7, ground := Go.Ground.phase }], guard := none }) rfl (fun K hK => ?_) (AllReadyH.nil)
      go_simp
      refine hK.out _ _ ?_ (fun hHeld => ?_)
      · exact (World.cell?_setCell_far wr.drew _ _ _ (by show BH ≠ V; omega)).trans hcv
      clear hK K
      try simp only [Act.put]
      refine wpAnyH_done (by kernel_rfl) ?_ _
      go_wp2_with fail
      have HT2 := HTT.out.setCell (p := ⟨BH, i, none⟩) (fun _ => rfl) (.int .u32 (IntKind.u32.wrap (l + z)))
      exact ⟨⟨i + 1, by omega, by go_num, HSET.out, ⟨HT2.os, HT2.tape, HT2.output, HT2.size, HT2.block⟩⟩, by simp [intOf]; omega⟩
    · obtain rfl : i = 8 := by omega
      have e8 : ((8 : Nat) : Int) = 8 := rfl
      rw [e8]
      have HR := Lib.hid hrow
      have HTT := Lib.hid htt
      clear e8 hrow htt h8
      go_wp2_with fail
      exact HQ.out _ _ _ _ _ _ _ _ _ _ _ _ _ _ _ HR.out HTT.out

set_option maxRecDepth 1000000 in
set_option maxHeartbeats 6400000 in
theorem rb12_any {Q : Exit → Act → World → Prop} (BH G : Nat) (s : S8) (w8 : World) (hok : s.Ok) (hHG : BH < G) (rH : IRow w8 BH 63 .u32 s.list) (rG : IRow w8 G 41 .u8 (List.replicate 32 0)) (u0 u1 u2 u3 u5 u6 u7 u8 u9 u10 u11 u12 u13 u14 u15 u16 u17 u20 u21 u22 u23 u24 u25 u26 u27 u28 u29 u30 u31 u32 u33 u34 u35 u36 u37 u38 u39 u40 u41 u42 u43 u44 u45 u46 u47 u48 u49 u50 u51 u52 u53 u54 u55 u56 u57 u58 u59 u60 u61 u62 u63 u64 u65 u66 u67 u68 u69 u70 u71 u72 u73 u74 u75 u76 u77 u78 u79 u80 u81 u82 u83 u84 u85 u86 u87 u88 u89 u90 u91 u92 u93 u94 u95 u96 u97 u98 u99 u100 u101 u102 u103 u104 u105 u106 u107 u108 u109 u110 u111 u112 u113 u114 u115 u116 u117 u118 u119 u120 u121 u122 u123 u124 u125 u126 u127 u128 u129 u130 u131 u132 u133 u134 u135 u136 u137 u138 u139 u140 u141 u142 u143 u144 u145 u146 u147 u148 u149 u150 u151 u152 u153 u154 u155 u156 u157 u158 u159 u160 u161 u162 u163 u164 u165 u166 u167 u168 u169 u170 u171 u172 u173 u174 u175 u176 u177 u178 u179 u180 u181 u182 u183 u184 u185 u186 u187 u188 u189 u190 u191 u192 u193 u194 u195 u196 u197 u198 u199 u200 u201 u202 u203 u204 u205 u206 u207 u208 u209 u210 u211 u212 u213 u214 u215 u216 u217 u218 u219 u220 u221 u222 u223 u224 u225 u226 u227 : Value)
    (_hPan : ∀ (c : List PanicEntry) (a : Act) (d : Tmp) (v : Value) (w : World), Q (.panic c) (a.put (some d) v) w → Q (.panic c) a w)
    (hQ : ∀ (v19 v210 v211 v212 v213 v214 v215 v216 v217 v218 v219 v220 v221 v222 v223 v224 v225 v226 : Value) (w' : World), IRow w' G 41 .u8 (nums (outB s.list)) → Below G w8 w' → Q .normal ⟨#[u0, u1, u2, u3, .pointer (some ⟨BH, 0, none⟩), u5, u6, u7, u8, u9, u10, u11, u12, u13, u14, u15, u16, u17, .pointer (some ⟨G, 0, none⟩), v19, u20, u21, u22, u23, u24, u25, u26, u27, u28, u29, u30, u31, u32, u33, u34, u35, u36, u37, u38, u39, u40, u41, u42, u43, u44, u45, u46, u47, u48, u49, u50, u51, u52, u53, u54, u55, u56, u57, u58, u59, u60, u61, u62, u63, u64, u65, u66, u67, u68, u69, u70, u71, u72, u73, u74, u75, u76, u77, u78, u79, u80, u81, u82, u83, u84, u85, u86, u87, u88, u89, u90, u91, u92, u93, u94, u95, u96, u97, u98, u99, u100, u101, u102, u103, u104, u105, u106, u107, u108, u109, u110, u111, u112, u113, u114, u115, u116, u117, u118, u119, u120, u121, u122, u123, u124, u125, u126, u127, u128, u129, u130, u131, u132, u133, u134, u135, u136, u137, u138, u139, u140, u141, u142, u143, u144, u145, u146, u147, u148, u149, u150, u151, u152, u153, u154, u155, u156, u157, u158, u159, u160, u161, u162, u163, u164, u165, u166, u167, u168, u169, u170, u171, u172, u173, u174, u175, u176, u177, u178, u179, u180, u181, u182, u183, u184, u185, u186, u187, u188, u189, u190, u191, u192, u193, u194, u195, u196, u197, u198, u199, u200, u201, u202, u203, u204, u205, u206, u207, u208, u209, v210, v211, v212, v213, v214, v215, v216, v217, v218, v219, v220, v221, v222, v223, v224, v225, v226, u227], []⟩ w') :
    Code.wp Tryd.prog (blkOf 12 Tryd.f34) Q ⟨#[u0, u1, u2, u3, .pointer (some ⟨BH, 0, none⟩), u5, u6, u7, u8, u9, u10, u11, u12, u13, u14, u15, u16, u17, .pointer (some ⟨G, 0, none⟩), .int .i64 0, u20, u21, u22, u23, u24, u25, u26, u27, u28, u29, u30, u31, u32, u33, u34, u35, u36, u37, u38, u39, u40, u41, u42, u43, u44, u45, u46, u47, u48, u49, u50, u51, u52, u53, u54, u55, u56, u57, u58, u59, u60, u61, u62, u63, u64, u65, u66, u67, u68, u69, u70, u71, u72, u73, u74, u75, u76, u77, u78, u79, u80, u81, u82, u83, u84, u85, u86, u87, u88, u89, u90, u91, u92, u93, u94, u95, u96, u97, u98, u99, u100, u101, u102, u103, u104, u105, u106, u107, u108, u109, u110, u111, u112, u113, u114, u115, u116, u117, u118, u119, u120, u121, u122, u123, u124, u125, u126, u127, u128, u129, u130, u131, u132, u133, u134, u135, u136, u137, u138, u139, u140, u141, u142, u143, u144, u145, u146, u147, u148, u149, u150, u151, u152, u153, u154, u155, u156, u157, u158, u159, u160, u161, u162, u163, u164, u165, u166, u167, u168, u169, u170, u171, u172, u173, u174, u175, u176, u177, u178, u179, u180, u181, u182, u183, u184, u185, u186, u187, u188, u189, u190, u191, u192, u193, u194, u195, u196, u197, u198, u199, u200, u201, u202, u203, u204, u205, u206, u207, u208, u209, u210, u211, u212, u213, u214, u215, u216, u217, u218, u219, u220, u221, u222, u223, u224, u225, u226, u227], []⟩ w8 := by
  conv => arg 2; whnf
  have HQ := Lib.hid hQ
  have RH := Lib.hid rH
  have RG := Lib.hid rG
  have HOK := Lib.hid hok
  have HOL := Lib.hid (show (nums (outB s.list)).length = 32 by rw [nums_length, outB_length]; rfl)
  clear hQ rH rG hok
  go_wp2_with fail
  go_loopw [19] (fun v19 wr => ∃ i : Nat, i ≤ 32 ∧ v19 = .int .i64 (i : Int) ∧ IRow wr G 41 .u8 (padZ 32 ((nums (outB s.list)).take i)) ∧ Below G w8 wr) (fun v19 _ => 32 - (intOf v19).toNat)
  case atStart => exact ⟨0, by omega, rfl, RG.out, Below.refl _ _⟩
  case round =>
    obtain ⟨i, hi, rfl, hrow, hbel⟩ := hrel
    by_cases h32 : i < 32
    · obtain ⟨q, hq⟩ : ∃ q, q = i / 4 := ⟨_, rfl⟩
      obtain ⟨r, hr⟩ : ∃ r, r = i % 4 := ⟨_, rfl⟩
      obtain ⟨sh, hsh⟩ : ∃ sh, sh = 24 - 8 * r := ⟨_, rfl⟩
      have e1 : (i : Int) / 4 = (q : Int) := by omega
      have e2 : (i : Int) % 4 = (r : Int) := by omega
      have e3 : 24 - 8 * (r : Int) = (sh : Int) := by omega
      have bq : (q : Int) < 8 := by omega
      have bs32 : sh ≤ 24 := by omega
      have b32 : (i : Int) < 32 := by omega
      obtain ⟨x, hx⟩ : ∃ x, s.list[q]? = some x := ⟨_, List.getElem?_eq_getElem (by have : s.list.length = 8 := rfl; omega)⟩
      have hxu : U32 x := S8.mem_ok HOK.out (List.mem_of_getElem? hx)
      have hat := outB_at s.list (i := i) (x := x) (by rw [← hq]; exact hx) hxu
      rw [← hr, ← hsh] at hat
      have hcx : wr.cell? ⟨BH, q, none⟩ = some (.int .u32 x) := (RH.out.below hbel hHG).cell hx
      have htl : ((nums (outB s.list)).take i).length = i := by rw [List.length_take, HOL.out]; omega
      have hcg : wr.cell? ⟨G, i, none⟩ = some (.int .u8 0) := hrow.cell (by have h := padZ_next (n := 32) (l := (nums (outB s.list)).take i) (by omega); rw [htl] at h; exact h)
      have hfg := hrow.free i
      have hset := hrow.set i (x / 2 ^ sh % 256)
      have hpz := padZ_set (n := 32) (l := (nums (outB s.list)).take i) (z := x / 2 ^ sh % 256) (by omega)
      rw [htl] at hpz
      have htk : (nums (outB s.list)).take i ++ [x / 2 ^ sh % 256] = (nums (outB s.list)).take (i + 1) := by rw [List.take_add_one, hat]; rfl
      rw [hpz, htk] at hset
      have HSET := Lib.hid hset
      have HBEL := Lib.hid hbel
      clear hx hxu hat htl hpz htk hset hrow hbel hq hr hsh
      go_wp2_with fail
      
      exact ⟨⟨i + 1, by omega, by go_num, HSET.out, HBEL.out.setCell (p := ⟨G, i, none⟩) (Nat.le_refl _) _⟩, by simp [intOf]; omega⟩
    · obtain rfl : i = 32 := by omega
      have e32 : ((32 : Nat) : Int) = 32 := rfl
      rw [e32]
      rw [List.take_of_length_le (by rw [HOL.out]; omega), padZ_full HOL.out] at hrow
      have HR := Lib.hid hrow
      have HBEL := Lib.hid hbel
      clear e32 hrow hbel h32
      go_wp2_with fail
      exact HQ.out _ _ _ _ _ _ _ _ _ _ _ _ _ _ _ _ _ _ _ HR.out HBEL.out
end Go.Proofs.YtehodjbjioepnaaDoor

/-
  The reference's Sum256, walked. Conditions: sizes within the reach.
-/
namespace Go.Proofs.YtehodjbjioepnaaDoor
open Go.RowKit

theorem info_h27 : (Tryd.prog.info? 41).map (·.size) = some 32 := by kernel_rfl

set_option maxRecDepth 100000 in
set_option maxHeartbeats 25600000 in
theorem rsum256_any (B : Nat) (x : Value) (m : List UInt8) (W0 : World) (hb : Byt W0 B x m) (hB : B ≤ W0.heap.size) (hl : m.length ≤ 100000) :
    Calls Tryd.prog 34 #[x] W0 fun e w' => e = .returned (digV (sha256 m)) ∧ Below W0.heap.size W0 w' := by
  obtain ⟨A, c, rfl⟩ := hb.form
  have rA := IRow.new W0 41 .u8 (List.replicate 32 0)
  have bA : Below W0.heap.size W0 (W0.alloc (.cells ((List.replicate 32 (0 : Int)).map (Value.int .u8)).toArray 41)) := (Below.refl _ W0).alloc (Nat.le_refl _) _
  have sA : (W0.alloc (.cells ((List.replicate 32 (0 : Int)).map (Value.int .u8)).toArray 41)).heap.size = W0.heap.size + 1 := by simp
  have HB := Lib.hid hb
  clear hb
  go_enter Tryd.func34, Tryd.ntmps34
  go_upto_region 1 with fail
  change Code.wp _ _ _ _ (W0.alloc (.cells ((List.replicate 32 (0 : Int)).map (Value.int .u8)).toArray 41))
  obtain ⟨wA, hwA⟩ : ∃ x, x = W0.alloc (.cells ((List.replicate 32 (0 : Int)).map (Value.int .u8)).toArray 41) := ⟨_, rfl⟩
  rw [← hwA] at rA bA sA ⊢
  obtain ⟨B0, hB0⟩ : ∃ B0, B0 = W0.heap.size := ⟨_, rfl⟩
  rw [← hB0] at rA bA sA ⊢
  have RA := Lib.hid rA
  have BA := Lib.hid bA
  have SA := Lib.hid sA
  have HB0 := Lib.hid hB0
  have RZ := Lib.hid (IRow.new wA 62 .u32 (List.replicate 64 0))
  have HI64 := Lib.hid (show (Tryd.prog.info? 62).map (·.size) = some k256.length from info_64)
  clear hwA rA bA sA hB0
  go_upto_region 2 with (refine wpList_store_irow rfl 62 (.tmp 3) (.tmp 20) rfl (g := wA.heap.size) (t := 62) (k := .u32) (xs := List.replicate 64 0) (ys := k256) rfl rfl RZ.out HI64.out rfl ?_)
  change Code.wp _ _ _ _ ((wA.alloc (.cells ((List.replicate 64 (0 : Int)).map (Value.int .u32)).toArray 62)).setRow wA.heap.size (k256.map (Value.int .u32)).toArray)
  obtain ⟨wB, hwB⟩ : ∃ x, x = (wA.alloc (.cells ((List.replicate 64 (0 : Int)).map (Value.int .u32)).toArray 62)).setRow wA.heap.size (k256.map (Value.int .u32)).toArray := ⟨_, rfl⟩
  rw [← hwB]
  obtain ⟨BK, hBK⟩ : ∃ BK, BK = wA.heap.size := ⟨_, rfl⟩
  have rK : IRow wB BK 62 .u32 k256 := by rw [hwB, hBK]; exact setRow_irow RZ.out
  have bB : Below BK wA wB := by rw [hwB, hBK]; exact below_setRow ((Below.refl _ wA).alloc (Nat.le_refl _) _) (Nat.le_refl _) _
  have sB : wB.heap.size = BK + 1 := by rw [hwB, hBK]; simp [World.setRow]
  rw [← hBK]
  have hk0 : BK = B0 + 1 := by rw [hBK, SA.out]
  have RK := Lib.hid rK
  have SB := Lib.hid sB
  have HK0 := Lib.hid hk0
  have RA2 := Lib.hid (RA.out.below bB (by omega))
  have BB := Lib.hid (BA.out.trans (bB.mono (by omega : B0 ≤ BK)))
  have RZ2 := Lib.hid (IRow.new wB 63 .u32 (List.replicate 8 0))
  have HI8 := Lib.hid (show (Tryd.prog.info? 63).map (·.size) = some start256.list.length from info_8)
  clear hwB hBK rK bB sB hk0 RZ
  try dsimp only [Act.put]
  go_upto_region 3 with (refine wpList_store_irow rfl 63 (.tmp 4) (.tmp 21) rfl (g := wB.heap.size) (t := 63) (k := .u32) (xs := List.replicate 8 0) (ys := start256.list) rfl rfl RZ2.out HI8.out rfl ?_)
  change Code.wp _ _ _ _ ((wB.alloc (.cells ((List.replicate 8 (0 : Int)).map (Value.int .u32)).toArray 63)).setRow wB.heap.size (start256.list.map (Value.int .u32)).toArray)
  obtain ⟨w1, hw1⟩ : ∃ x, x = (wB.alloc (.cells ((List.replicate 8 (0 : Int)).map (Value.int .u32)).toArray 63)).setRow wB.heap.size (start256.list.map (Value.int .u32)).toArray := ⟨_, rfl⟩
  rw [← hw1]
  obtain ⟨BH, hBH⟩ : ∃ BH, BH = wB.heap.size := ⟨_, rfl⟩
  have rH : IRow w1 BH 63 .u32 start256.list := by rw [hw1, hBH]; exact setRow_irow RZ2.out
  have bH : Below BH wB w1 := by rw [hw1, hBH]; exact below_setRow ((Below.refl _ wB).alloc (Nat.le_refl _) _) (Nat.le_refl _) _
  have s1 : w1.heap.size = BH + 1 := by rw [hw1, hBH]; simp [World.setRow]
  rw [← hBH]
  have hh0 : BH = BK + 1 := by rw [hBH, SB.out]
  have hk0 := HK0.out
  have rK := RK.out.below bH (by omega)
  have rA := RA2.out.below bH (by omega)
  have b1 := BB.out.trans (bH.mono (by omega : B0 ≤ BH))
  have C := Lib.hid (fill256_any B _ m w1 (HB.out.below (b1.mono (by rw [HB0.out]; exact hB))) (by have := b1.size; omega) (by omega) (by omega))
  have HH0 := Lib.hid hh0
  have S1 := Lib.hid s1
  have RH := Lib.hid rH
  have RK1 := Lib.hid rK
  have RA1 := Lib.hid rA
  have B1 := Lib.hid b1
  clear hw1 hBH rH bH s1 hh0 hk0 rK rA b1 RZ2 RA2 BB RK
  try dsimp only [Act.put]
  go_wp2_with fail
  refine C.out.mono ?_
  rintro e w2 ⟨v, rfl, hown, hb2⟩
  rw [fillG_256] at hown
  obtain ⟨FM, hF⟩ : ∃ FM, FM = full m := ⟨_, rfl⟩
  rw [← hF] at hown
  obtain ⟨M, hM⟩ : ∃ M, M = FM.length := ⟨_, rfl⟩
  have hMb : M ≤ 100200 := by rw [hM, hF]; unfold full padB lenB; simp; omega
  have hM64 : M % 64 = 0 := by rw [hM, hF]; exact full_blocks m
  have hMp : 0 < M := by rw [hM, hF]; unfold full padB; simp; omega
  obtain ⟨gm, cm, rfl, hgm, hgs, hcm⟩ := hown.block (by omega)
  have hcap : cm ≤ 9223372036854775807 := by
    obtain ⟨_, c', e, _, h2, _⟩ := hown.byt
    injection e with _ _ e3
    subst e3
    unfold maxLen at h2
    exact h2
  have hcell : ∀ (j : Nat) (u : UInt8), FM[j]? = some u → w2.cell? ⟨gm, j, none⟩ = some (bv u) := fun j u hu => hown.cell hu
  have rH := RH.out.below hb2 RH.out.lt
  have rK := RK1.out.below hb2 RK1.out.lt
  have rA := RA1.out.below hb2 RA1.out.lt
  have b2 := B1.out.trans (hb2.mono B1.out.size |>.mono (by have := HB0.out; omega))
  have hgH : BH < gm := by have := S1.out; omega
  rw [← hM] at hcm ⊢
  have HF := Lib.hid hF
  have HM := Lib.hid hM
  have HC := Lib.hid hcell
  have RH2 := Lib.hid rH
  have RK2 := Lib.hid rK
  have RA2 := Lib.hid rA
  have B2 := Lib.hid b2
  have G2 := Lib.hid hgs
  clear hown hb2 hF hM hcell rH rK rA b2 hgs RH RK1 RA1 B1 C
  go_wp2_with fail
  go_loopw [6] (fun v6 wr => ∃ q : Nat, 64 * q ≤ M ∧ v6 = .int .i64 ((64 * q : Nat) : Int) ∧ IRow wr BH 63 .u32 (blocks256 FM q).list ∧ Turns (· = BH) w2 wr) (fun v6 _ => M - (intOf v6).toNat)
  case atStart => exact ⟨0, by omega, rfl, RH2.out, Turns.refl _ _⟩
  case round =>
    obtain ⟨q, hq, rfl, rH, tH⟩ := hrel
    obtain ⟨p, hp⟩ : ∃ p, p = 64 * q := ⟨_, rfl⟩
    rw [← hp]
    obtain ⟨w3, hw3⟩ : ∃ w3 : World, w3 = wr := ⟨_, rfl⟩
    rw [← hw3] at rH tH ⊢
    clear hw3
    have R3 := Lib.hid rH
    have T3 := Lib.hid tH
    have HP := Lib.hid hp
    clear rH tH hp
    by_cases hlt : p < M
    · obtain ⟨bs, hbs⟩ : ∃ bs, bs = (FM.drop (64 * q)).take 64 := ⟨_, rfl⟩
      have hbl : bs.length = 64 := by rw [hbs, List.length_take, List.length_drop, ← HM.out]; have := HP.out; omega
      have hbc : ∀ wx, Turns (· = BH) w2 wx → ∀ (j : Nat) (u : UInt8), bs[j]? = some u → wx.cell? ⟨gm, p + j, none⟩ = some (bv u) := fun wx ht j u hu => by
        refine (ht.cell (p := ⟨gm, p + j, none⟩) G2.out (by show gm ≠ BH; omega)).trans (HC.out _ _ ?_)
        rw [hbs, List.getElem?_take] at hu
        split at hu
        · rw [List.getElem?_drop] at hu; rw [HP.out]; exact hu
        · exact absurd hu (by simp)
      have HBS := Lib.hid hbs
      have HBL := Lib.hid hbl
      have HBC := Lib.hid hbc
      clear hbs hbl hbc
      have rW := IRow.new w3 62 .u32 (List.replicate 64 0)
      have bW : Below w3.heap.size w3 (w3.alloc (.cells ((List.replicate 64 (0 : Int)).map (Value.int .u32)).toArray 62)) := (Below.refl _ w3).alloc (Nat.le_refl _) _
      have RW0 := Lib.hid rW
      have BW0 := Lib.hid bW
      clear rW bW
      go_upto_block 2 with fail
      change Code.wp _ _ _ _ (w3.alloc (.cells ((List.replicate 64 (0 : Int)).map (Value.int .u32)).toArray 62))
      obtain ⟨w4, hw4⟩ : ∃ x, x = w3.alloc (.cells ((List.replicate 64 (0 : Int)).map (Value.int .u32)).toArray 62) := ⟨_, rfl⟩
      rw [← hw4] at RW0 BW0 ⊢
      obtain ⟨W, hW⟩ : ∃ W, W = w3.heap.size := ⟨_, rfl⟩
      rw [← hW] at RW0 BW0 ⊢
      have hWH : BH < W := by have := T3.out.size; have := G2.out; omega
      have hWm : gm < W := by have := T3.out.size; have := G2.out; omega
      have HW := Lib.hid hW
      clear hw4 hW
      try dsimp only [Act.put]
      have hbc4 : ∀ (j : Nat) (u : UInt8), bs[j]? = some u → w4.cell? ⟨gm, p + j, none⟩ = some (bv u) := fun j u hu => (BW0.out.cell (p := ⟨gm, p + j, none⟩) hWm).trans (HBC.out w3 T3.out j u hu)
      refine rb2_any W gm p M cm bs w4 HBL.out (by have := HP.out; omega) hMb hWm RW0.out hbc4 _ _ _ _ _ _ _ _ _ _ _ _ _ _ _ _ _ _ _ _ _ _ _ _ _ _ _ _ _ _ _ _ _ _ _ _ _ _ _ _ _ _ _ _ _ _ _ _ _ _ _ _ _ _ _ _ _ _ _ _ _ _ _ _ _ _ _ _ _ _ _ _ _ _ _ _ _ _ _ _ _ _ _ _ _ _ _ _ _ _ _ _ _ _ _ _ _ _ _ _ _ _ _ _ _ _ _ _ _ _ _ _ _ _ _ _ _ _ _ _ _ _ _ _ _ _ _ _ _ _ _ _ _ _ _ _ _ _ _ _ _ _ _ _ _ _ _ _ _ _ _ _ _ _ _ _ _ _ _ _ _ _ _ _ _ _ _ _ _ _ _ _ _ _ _ _ _ _ _ _ _ _ _ _ _ _ _ _ _ _ _ _ _ _ _ _ _ _ _ _ _ _ _ _ _ _ _ _ _ _ _ _ _ _ _ _ _ _ _ _ _ _ _ _ (fun _ _ _ _ _ h => h) (fun v2_8 v2_9 v2_30 v2_31 v2_32 v2_33 v2_34 v2_35 v2_36 v2_37 v2_38 v2_39 v2_40 v2_41 v2_42 v2_43 v2_44 v2_45 v2_46 v2_47 v2_48 v2_49 v2_50 v2_51 v2_52 v2_53 v2_54 w5 r5 b5 => ?_)
      have R5 := Lib.hid r5
      have B5 := Lib.hid b5
      clear r5 b5 hbc4
      go_upto_block 6 with fail
      refine rb6_any W bs w5 R5.out _ _ _ _ _ _ _ _ _ _ _ _ _ _ _ _ _ _ _ _ _ _ _ _ _ _ _ _ _ _ _ _ _ _ _ _ _ _ _ _ _ _ _ _ _ _ _ _ _ _ _ _ _ _ _ _ _ _ _ _ _ _ _ _ _ _ _ _ _ _ _ _ _ _ _ _ _ _ _ _ _ _ _ _ _ _ _ _ _ _ _ _ _ _ _ _ _ _ _ _ _ _ _ _ _ _ _ _ _ _ _ _ _ _ _ _ _ _ _ _ _ _ _ _ _ _ _ _ _ _ _ _ _ _ _ _ _ _ _ _ _ _ _ _ _ _ _ _ _ _ _ _ _ _ _ _ _ _ _ _ _ _ _ _ _ _ _ _ _ _ _ _ _ _ _ _ _ _ _ _ _ _ _ _ _ _ _ _ _ _ _ _ _ _ _ _ _ _ _ _ _ _ _ _ _ _ _ _ _ _ _ _ _ _ _ _ _ _ _ _ _ _ _ _ _ _ (fun _ _ _ _ _ h => h) (fun v6_10 v6_11 v6_12 v6_55 v6_56 v6_57 v6_58 v6_59 v6_60 v6_61 v6_62 v6_63 v6_64 v6_65 v6_66 v6_67 v6_68 v6_69 v6_70 v6_71 v6_72 v6_73 v6_74 v6_75 v6_76 v6_77 v6_78 v6_79 v6_80 v6_81 v6_82 v6_83 v6_84 v6_85 v6_86 v6_87 v6_88 v6_89 v6_90 v6_91 v6_92 v6_93 v6_94 v6_95 v6_96 v6_97 v6_98 v6_99 v6_100 v6_101 v6_102 v6_103 v6_104 v6_105 v6_106 v6_107 w6 r6 b6 => ?_)
      have hb36 := BW0.out.trans (B5.out.trans b6)
      have t36 : Turns (· = BH) w2 w6 := T3.out.trans (Turns.of_below (S := (· = BH)) (by rw [← HW.out]; exact hb36)) (fun _ _ h => h)
      have R6 := Lib.hid r6
      have RH6 := Lib.hid (R3.out.below hb36 hWH)
      have T6 := Lib.hid t36
      have W6 := Lib.hid (show W < w6.heap.size from r6.lt)
      obtain ⟨sq, hsq⟩ : ∃ sq, sq = blocks256 FM q := ⟨_, rfl⟩
      rw [← hsq] at RH6
      have HSQ := Lib.hid hsq
      have RZ6 := Lib.hid (IRow.new w6 63 .u32 (List.replicate 8 0))
      have HI8q := Lib.hid (show (Tryd.prog.info? 63).map (·.size) = some sq.list.length from info_8)
      clear r6 b6 hb36 t36 hsq
      go_upto_block 8 with (first
        | (refine wpList_load_irow rfl 63 (.tmp 4) rfl (g := BH) (t := 63) (k := .u32) (xs := sq.list) rfl RH6.out Tryd.underlying63 HI8q.out ?_)
        | (refine wpList_store_irow rfl 63 (.tmp 13) (.tmp 108) rfl (g := w6.heap.size) (t := 63) (k := .u32) (xs := List.replicate 8 0) (ys := sq.list) rfl rfl RZ6.out HI8q.out rfl ?_))
      change Code.wp _ _ _ _ ((w6.alloc (.cells ((List.replicate 8 (0 : Int)).map (Value.int .u32)).toArray 63)).setRow w6.heap.size (sq.list.map (Value.int .u32)).toArray)
      obtain ⟨w7, hw7⟩ : ∃ x, x = (w6.alloc (.cells ((List.replicate 8 (0 : Int)).map (Value.int .u32)).toArray 63)).setRow w6.heap.size (sq.list.map (Value.int .u32)).toArray := ⟨_, rfl⟩
      rw [← hw7]
      have r7 : IRow w7 w6.heap.size 63 .u32 sq.list := by rw [hw7]; exact setRow_irow RZ6.out
      have b7 : Below w6.heap.size w6 w7 := by rw [hw7]; exact below_setRow ((Below.refl _ w6).alloc (Nat.le_refl _) _) (Nat.le_refl _) _
      obtain ⟨V, hV⟩ : ∃ V, V = w6.heap.size := ⟨_, rfl⟩
      rw [← hV] at r7 b7 ⊢
      have hVW : W < V := by have := W6.out; omega
      have t7 : Turns (· = BH) w2 w7 := T6.out.trans (Turns.of_below (S := (· = BH)) (by rw [← hV]; exact b7)) (fun _ _ h => h)
      have hBKH : BK < BH := by have := HH0.out; omega
      have rK7 : IRow w7 BK 62 .u32 k256 := RK2.out.turns t7 (by omega)
      have rW7 := R6.out.below b7 hVW
      have rH7 := RH6.out.below b7 (by omega)
      have hoks : sq.Ok := by rw [HSQ.out]; exact blocks256_ok _ _
      have RH7 := Lib.hid rH7
      have T7 := Lib.hid t7
      have V7 := Lib.hid (show V < w7.heap.size from r7.lt)
      try dsimp only [Act.put]
      refine rb8_any BK W V bs sq w7 hoks (by omega) hVW rK7 rW7 r7 _ _ _ _ _ _ _ _ _ _ _ _ _ _ _ _ _ _ _ _ _ _ _ _ _ _ _ _ _ _ _ _ _ _ _ _ _ _ _ _ _ _ _ _ _ _ _ _ _ _ _ _ _ _ _ _ _ _ _ _ _ _ _ _ _ _ _ _ _ _ _ _ _ _ _ _ _ _ _ _ _ _ _ _ _ _ _ _ _ _ _ _ _ _ _ _ _ _ _ _ _ _ _ _ _ _ _ _ _ _ _ _ _ _ _ _ _ _ _ _ _ _ _ _ _ _ _ _ _ _ _ _ _ _ _ _ _ _ _ _ _ _ _ _ _ _ _ _ _ _ _ _ _ _ _ _ _ _ _ _ _ _ _ _ _ _ _ _ _ _ _ _ _ _ _ _ _ _ _ _ _ _ _ _ _ _ _ _ _ _ _ _ _ _ _ _ _ _ _ _ _ _ _ _ _ _ _ _ _ _ _ _ _ _ _ _ _ _ _ _ _ _ _ _ (fun _ _ _ _ _ h => h) (fun v8_14 v8_15 v8_16 v8_109 v8_110 v8_111 v8_112 v8_113 v8_114 v8_115 v8_116 v8_117 v8_118 v8_119 v8_120 v8_121 v8_122 v8_123 v8_124 v8_125 v8_126 v8_127 v8_128 v8_129 v8_130 v8_131 v8_132 v8_133 v8_134 v8_135 v8_136 v8_137 v8_138 v8_139 v8_140 v8_141 v8_142 v8_143 v8_144 v8_145 v8_146 v8_147 v8_148 v8_149 v8_150 v8_151 v8_152 v8_153 v8_154 v8_155 v8_156 v8_157 v8_158 v8_159 v8_160 v8_161 v8_162 v8_163 v8_164 v8_165 v8_166 v8_167 v8_168 v8_169 v8_170 v8_171 v8_172 v8_173 v8_174 v8_175 v8_176 v8_177 v8_178 v8_179 v8_180 v8_181 v8_182 v8_183 v8_184 v8_185 v8_186 v8_187 v8_188 v8_189 v8_190 v8_191 v8_192 v8_193 v8_194 v8_195 v8_196 w8 r8 b8 => ?_)
      have rH8 := RH7.out.below b8 (by omega)
      have h2W : w2.heap.size ≤ W := by rw [HW.out]; exact T3.out.size
      have t8 : Turns (· = BH) w2 w8 := ⟨b8.os.trans T7.out.os, b8.tape.trans T7.out.tape, b8.output.trans T7.out.output, Nat.le_trans T7.out.size b8.size, fun k hk hn => (b8.block k (by omega)).trans (T7.out.block k hk hn)⟩
      obtain ⟨sv, hsv⟩ : ∃ sv, sv = rounds k256 (W64 bs) 64 sq := ⟨_, rfl⟩
      rw [← hsv] at r8
      have R8 := Lib.hid r8
      have RH8 := Lib.hid rH8
      have T8 := Lib.hid t8
      have HSV := Lib.hid hsv
      clear r8 b8 rH8 t8 hsv rK7 rW7 r7 b7 t7 rH7
      go_upto_block 10 with fail
      refine rb10_any BH V sq sv w8 (by omega) RH8.out R8.out _ _ _ _ _ _ _ _ _ _ _ _ _ _ _ _ _ _ _ _ _ _ _ _ _ _ _ _ _ _ _ _ _ _ _ _ _ _ _ _ _ _ _ _ _ _ _ _ _ _ _ _ _ _ _ _ _ _ _ _ _ _ _ _ _ _ _ _ _ _ _ _ _ _ _ _ _ _ _ _ _ _ _ _ _ _ _ _ _ _ _ _ _ _ _ _ _ _ _ _ _ _ _ _ _ _ _ _ _ _ _ _ _ _ _ _ _ _ _ _ _ _ _ _ _ _ _ _ _ _ _ _ _ _ _ _ _ _ _ _ _ _ _ _ _ _ _ _ _ _ _ _ _ _ _ _ _ _ _ _ _ _ _ _ _ _ _ _ _ _ _ _ _ _ _ _ _ _ _ _ _ _ _ _ _ _ _ _ _ _ _ _ _ _ _ _ _ _ _ _ _ _ _ _ _ _ _ _ _ _ _ _ _ _ _ _ _ _ _ _ _ _ _ _ _ (fun _ _ _ _ _ h => h) (fun v10_17 v10_197 v10_198 v10_199 v10_200 v10_201 v10_202 v10_203 v10_204 v10_205 v10_206 v10_207 v10_208 v10_209 w9 r9 t9 => ?_)
      have e9 : mix sq.list sv.list 8 = (blocks256 FM (q + 1)).list := by rw [blocks256, ← HSQ.out, ← HBS.out, HSV.out]; rfl
      rw [e9] at r9
      have R9 := Lib.hid r9
      have T9 := Lib.hid (T8.out.trans t9 (fun _ _ h => h))
      clear r9 t9 e9
      have ep : IntKind.i64.wrap ((p : Int) + 64) = (p : Int) + 64 := by rw [IntWalk.i64_in _ (by omega)]
      go_wp2_with fail
      exact ⟨⟨q + 1, by have := HP.out; omega, by have := HP.out; exact congrArg (Value.int .i64) (by omega), R9.out, T9.out⟩, by simp [intOf]; omega⟩
    · have hpM : p = M := by have := HP.out; omega
      have hd : ¬ (p : Int) < (M : Int) := by omega
      have hqM : q = FM.length / 64 := by rw [← HM.out]; have := HP.out; omega
      have hsha : sha256 m = outB (blocks256 FM q).list := by rw [hqM, HF.out]; rfl
      have hoks : (blocks256 FM q).Ok := blocks256_ok _ _
      obtain ⟨sq, hsq⟩ : ∃ sq, sq = blocks256 FM q := ⟨_, rfl⟩
      rw [← hsq] at R3 hsha hoks
      have rG := IRow.new w3 41 .u8 (List.replicate 32 0)
      have bG : Below w3.heap.size w3 (w3.alloc (.cells ((List.replicate 32 (0 : Int)).map (Value.int .u8)).toArray 41)) := (Below.refl _ w3).alloc (Nat.le_refl _) _
      have RG := Lib.hid rG
      have BG := Lib.hid bG
      have HSHA := Lib.hid hsha
      have HOKS := Lib.hid hoks
      clear rG bG hqM hsha hoks hsq
      go_upto_block 12 with fail
      change Code.wp _ _ _ _ (w3.alloc (.cells ((List.replicate 32 (0 : Int)).map (Value.int .u8)).toArray 41))
      obtain ⟨w4, hw4⟩ : ∃ x, x = w3.alloc (.cells ((List.replicate 32 (0 : Int)).map (Value.int .u8)).toArray 41) := ⟨_, rfl⟩
      rw [← hw4] at RG BG ⊢
      obtain ⟨G, hG⟩ : ∃ G, G = w3.heap.size := ⟨_, rfl⟩
      rw [← hG] at RG BG ⊢
      have hHG : BH < G := by have := T3.out.size; have := G2.out; omega
      have hb23 : Below B0 w2 w3 := T3.out.below_of (by have := HK0.out; have := HH0.out; have := G2.out; omega) (by intro i hi h; have := HK0.out; have := HH0.out; omega)
      have hb4 := B2.out.trans (hb23.trans (BG.out.mono (by have := HK0.out; have := HH0.out; omega)))
      have rA4 := ((RA2.out.below (B := B0 + 1) (T3.out.below_of (by have := HK0.out; have := HH0.out; have := G2.out; omega) (by intro i hi h; have := HK0.out; have := HH0.out; omega)) (by omega)).below BG.out (by have := HK0.out; have := HH0.out; omega))
      have RA4 := Lib.hid rA4
      have B4 := Lib.hid hb4
      clear hw4 hG hb23 hb4 rA4
      try dsimp only [Act.put]
      refine rb12_any BH G sq w4 HOKS.out hHG (R3.out.below BG.out hHG) RG.out _ _ _ _ _ _ _ _ _ _ _ _ _ _ _ _ _ _ _ _ _ _ _ _ _ _ _ _ _ _ _ _ _ _ _ _ _ _ _ _ _ _ _ _ _ _ _ _ _ _ _ _ _ _ _ _ _ _ _ _ _ _ _ _ _ _ _ _ _ _ _ _ _ _ _ _ _ _ _ _ _ _ _ _ _ _ _ _ _ _ _ _ _ _ _ _ _ _ _ _ _ _ _ _ _ _ _ _ _ _ _ _ _ _ _ _ _ _ _ _ _ _ _ _ _ _ _ _ _ _ _ _ _ _ _ _ _ _ _ _ _ _ _ _ _ _ _ _ _ _ _ _ _ _ _ _ _ _ _ _ _ _ _ _ _ _ _ _ _ _ _ _ _ _ _ _ _ _ _ _ _ _ _ _ _ _ _ _ _ _ _ _ _ _ _ _ _ _ _ _ _ _ _ _ _ _ _ _ _ _ _ _ _ _ _ _ _ _ _ _ _ _ _ _ _ (fun _ _ _ _ _ h => h) (fun v12_19 v12_210 v12_211 v12_212 v12_213 v12_214 v12_215 v12_216 v12_217 v12_218 v12_219 v12_220 v12_221 v12_222 v12_223 v12_224 v12_225 v12_226 w5 r5 b5 => ?_)
      rw [← HSHA.out] at r5
      have hB0G : B0 < G := by have := HK0.out; have := HH0.out; omega
      have hsz : (nums (sha256 m)).length = 32 := by rw [nums_length, sha256_length]
      have HI := Lib.hid (show (Tryd.prog.info? 41).map (·.size) = some (nums (sha256 m)).length by rw [hsz]; exact info_h27)
      have HL := Lib.hid (show (List.replicate 32 (0 : Int)).length = (nums (sha256 m)).length by rw [hsz]; rfl)
      have rA5 := RA4.out.below b5 hB0G
      have hb5 := B4.out.trans (b5.mono (by omega : B0 ≤ G))
      have R5 := Lib.hid r5
      have RA5 := Lib.hid rA5
      have HFIN := Lib.hid (setRow_irow (ys := nums (sha256 m)) rA5)
      have HBF := Lib.hid (below_setRow hb5 (Nat.le_refl _) ((nums (sha256 m)).map (Value.int .u8)).toArray)
      clear r5 b5 rA5 hb5 hsz
      go_wp2_with (first
        | (refine wpList_load_irow rfl 41 (.tmp 18) rfl (g := G) (t := 41) (k := .u8) (xs := nums (sha256 m)) rfl R5.out Tryd.underlying41 HI.out ?_)
        | (refine wpList_store_irow rfl 41 (.tmp 2) (.tmp 227) rfl (g := B0) (t := 41) (k := .u8) (xs := List.replicate 32 0) (ys := nums (sha256 m)) rfl rfl RA5.out HI.out HL.out ?_))
      refine bodyPost_ret (v := digV (sha256 m)) ?_ rfl ⟨rfl, by rw [← HB0.out]; exact HBF.out⟩
      obtain ⟨fr, hrw⟩ : ∃ fr, ((w5.setRow B0 ((nums (sha256 m)).map (Value.int .u8)).toArray)).heap[B0]? = some (.cells ((nums (sha256 m)).map (Value.int .u8)).toArray 41 fr) := ⟨_, HFIN.out⟩
      exact results_cell_row Tryd.results34 _ _ B0 41 ((nums (sha256 m)).map (Value.int .u8)).toArray fr _ rfl hrw Tryd.underlying41 rfl (by rw [List.size_toArray, List.length_map]; exact HI.out)
end Go.Proofs.YtehodjbjioepnaaDoor

/-
  The reference's Double, walked. Conditions: sizes within the reach.
-/
namespace Go.Proofs.YtehodjbjioepnaaDoor
open Go.RowKit

set_option maxRecDepth 100000 in
set_option maxHeartbeats 3200000 in
theorem rdouble_any (B : Nat) (v : Value) (b : List UInt8) (W0 : World) (hb : Byt W0 B v b) (hB : B ≤ W0.heap.size) (hlen : b.length ≤ 100000) :
    Calls Tryd.prog 23 #[v] W0 fun e w' => e = .returned (digV (sha256 (sha256 b))) ∧ Below W0.heap.size W0 w' := by
  obtain ⟨A, c, rfl⟩ := hb.form
  have HB := Lib.hid hb
  clear hb
  have rA := IRow.new W0 41 .u8 (List.replicate 32 0)
  have bA : Below W0.heap.size W0 (W0.alloc (.cells ((List.replicate 32 (0 : Int)).map (Value.int .u8)).toArray 41)) := (Below.refl _ W0).alloc (Nat.le_refl _) _
  go_enter Tryd.func23, Tryd.ntmps23
  go_upto_region 1 with fail
  change Code.wp _ _ _ _ (W0.alloc (.cells ((List.replicate 32 (0 : Int)).map (Value.int .u8)).toArray 41))
  obtain ⟨wA, hwA⟩ : ∃ x, x = W0.alloc (.cells ((List.replicate 32 (0 : Int)).map (Value.int .u8)).toArray 41) := ⟨_, rfl⟩
  rw [← hwA] at rA bA ⊢
  obtain ⟨B0, hB0⟩ : ∃ B0, B0 = W0.heap.size := ⟨_, rfl⟩
  rw [← hB0] at rA bA ⊢
  have C1 := Lib.hid (rsum256_any B _ b wA (HB.out.below (bA.mono (by omega))) (by have := bA.size; omega) hlen)
  have RA := Lib.hid rA
  have BA := Lib.hid bA
  have HB0 := Lib.hid hB0
  clear hwA rA bA hB0
  go_wp2_with fail
  refine C1.out.mono ?_
  rintro e w2 ⟨rfl, hb2⟩
  have hsz : (nums (sha256 b)).length = 32 := by rw [nums_length, sha256_length]
  have HI := Lib.hid (show (Tryd.prog.info? 41).map (·.size) = some (nums (sha256 b)).length by rw [hsz]; exact info_h27)
  have HL := Lib.hid (show (List.replicate 32 (0 : Int)).length = (nums (sha256 b)).length by rw [hsz]; rfl)
  have rA2 := RA.out.below hb2 RA.out.lt
  have bA2 := BA.out.trans (hb2.mono (by have := BA.out.size; have := HB0.out; omega))
  have rC := IRow.new w2 41 .u8 (List.replicate 32 0)
  have rC2 := setRow_irow (ys := nums (sha256 b)) rC
  have bC : Below w2.heap.size w2 ((w2.alloc (.cells ((List.replicate 32 (0 : Int)).map (Value.int .u8)).toArray 41)).setRow w2.heap.size ((nums (sha256 b)).map (Value.int .u8)).toArray) := below_setRow ((Below.refl _ w2).alloc (Nat.le_refl _) _) (Nat.le_refl _) _
  have RA2 := Lib.hid rA2
  have BA2 := Lib.hid bA2
  have RC := Lib.hid rC
  have RC2 := Lib.hid rC2
  have BC := Lib.hid bC
  clear hb2 rA2 bA2 rC rC2 bC hsz
  unfold digV
  go_upto_region 2 with (refine wpList_store_irow rfl 41 (.tmp 3) (.tmp 5) rfl (g := w2.heap.size) (t := 41) (k := .u8) (xs := List.replicate 32 0) (ys := nums (sha256 b)) rfl rfl RC.out HI.out HL.out ?_)
  change Code.wp _ _ _ _ ((w2.alloc (.cells ((List.replicate 32 (0 : Int)).map (Value.int .u8)).toArray 41)).setRow w2.heap.size ((nums (sha256 b)).map (Value.int .u8)).toArray)
  obtain ⟨w3, hw3⟩ : ∃ x, x = (w2.alloc (.cells ((List.replicate 32 (0 : Int)).map (Value.int .u8)).toArray 41)).setRow w2.heap.size ((nums (sha256 b)).map (Value.int .u8)).toArray := ⟨_, rfl⟩
  rw [← hw3]
  have rC3 : IRow w3 w2.heap.size 41 .u8 (nums (sha256 b)) := by rw [hw3]; exact RC2.out
  have bC3 : Below w2.heap.size w2 w3 := by rw [hw3]; exact BC.out
  have rA3 := RA2.out.below bC3 RA2.out.lt
  have bA3 := BA2.out.trans (bC3.mono (by have := BA2.out.size; have := HB0.out; omega))
  have hby := rC3.bytes (by rw [sha256_length]; unfold maxLen; omega)
  rw [sha256_length] at hby
  have C2 := Lib.hid (rsum256_any _ _ _ w3 hby (by have := rC3.lt; omega) (by rw [sha256_length]; omega))
  have RA3 := Lib.hid rA3
  have BA3 := Lib.hid bA3
  clear hw3 rC3 bC3 rA3 bA3 hby RA2 BA2 RC RC2 BC HI HL
  dsimp only [Act.put]
  go_wp2_with fail
  refine C2.out.mono ?_
  rintro e w4 ⟨rfl, hb4⟩
  have hsz : (nums (sha256 (sha256 b))).length = 32 := by rw [nums_length, sha256_length]
  have HI := Lib.hid (show (Tryd.prog.info? 41).map (·.size) = some (nums (sha256 (sha256 b))).length by rw [hsz]; exact info_h27)
  have HL := Lib.hid (show (List.replicate 32 (0 : Int)).length = (nums (sha256 (sha256 b))).length by rw [hsz]; rfl)
  have ra4 := RA3.out.below hb4 RA3.out.lt
  have b4 := BA3.out.trans (hb4.mono (by have := BA3.out.size; have := HB0.out; omega))
  have HFIN := Lib.hid (setRow_irow (ys := nums (sha256 (sha256 b))) ra4)
  have HBF := Lib.hid (below_setRow b4 (Nat.le_refl _) ((nums (sha256 (sha256 b))).map (Value.int .u8)).toArray)
  have RA4 := Lib.hid ra4
  clear ra4 b4 hb4 hsz
  unfold digV
  go_wp2_with (refine wpList_store_irow rfl 41 (.tmp 2) (.tmp 7) rfl (g := B0) (t := 41) (k := .u8) (xs := List.replicate 32 0) (ys := nums (sha256 (sha256 b))) rfl rfl RA4.out HI.out HL.out ?_)
  refine bodyPost_ret (v := digV (sha256 (sha256 b))) ?_ rfl ⟨rfl, by rw [← HB0.out]; exact HBF.out⟩
  obtain ⟨fr, hrw⟩ : ∃ fr, ((w4.setRow B0 ((nums (sha256 (sha256 b))).map (Value.int .u8)).toArray)).heap[B0]? = some (.cells ((nums (sha256 (sha256 b))).map (Value.int .u8)).toArray 41 fr) := ⟨_, HFIN.out⟩
  exact results_cell_row Tryd.results23 _ _ B0 41 ((nums (sha256 (sha256 b))).map (Value.int .u8)).toArray fr _ rfl hrw Tryd.underlying41 rfl (by rw [List.size_toArray, List.length_map]; exact HI.out)

end Go.Proofs.YtehodjbjioepnaaDoor

/-
  text.FromBase58, sum58, Check58. Conditions: sizes within the reach; the roots are laid.
-/
namespace Go.Proofs.YtehodjbjioepnaaDoor
open Go.RowKit

set_option maxRecDepth 100000 in
set_option maxHeartbeats 1600000 in
theorem from58_any (s : ByteArray) (w : World) : Calls Tryd.prog 12 #[.string s] w (RDec w s.data.toList) := by
  obtain ⟨cs, hcs⟩ : ∃ cs, cs = s.data.toList := ⟨_, rfl⟩
  have hlen : cs.length = s.size := by rw [hcs]; rfl
  rw [← hcs]
  have HL := Lib.hid hlen
  by_cases h250 : 250 < s.size
  · have hd : decide ((250 : Int) < (s.size : Int)) = true := decide_eq_true (by omega)
    have HD := Lib.hid (show Dec cs 2 [] from .inl ⟨by rw [HL.out]; exact h250, rfl, rfl⟩)
    clear hcs hlen
    go_enter Tryd.func12, Tryd.ntmps12
    go_wp2_with fail
    go_ret2
    exact ⟨2, _, [], HD.out, rfl, OwnB.nil _ _, Below.refl _ _⟩
  have hd : decide ((250 : Int) < (s.size : Int)) = false := decide_eq_false (by omega)
  have P := places_any s b58D w (by omega) (by decide)
  rw [← hcs] at P
  have HP := Lib.hid P
  clear P hcs hlen
  go_enter Tryd.func12, Tryd.ntmps12
  go_wp2_with fail
  refine HP.out.mono ?_
  rintro e w1 ⟨hb1, ⟨hall, rfl, hrow⟩ | ⟨hbad, rfl⟩⟩
  · have hsm : ∀ d ∈ placesB b58D cs, d.toNat < 58 := fun d hd => by
      unfold placesB at hd
      obtain ⟨c1, hc1, rfl⟩ := List.mem_map.1 hd
      have h2 := posB_range8 b58D c1
      have h3 := hall c1 hc1
      have h4 := b8_toNat (posB b58D c1)
      have h58' : (b58D.size : Int) = 58 := rfl
      omega
    have hby := hrow.byt (n := cs.length) (c := cs.length) (by rw [placesB_length]; exact Nat.le_refl _) (Nat.le_refl _) (by have := HL.out; unfold maxLen; omega)
    rw [List.take_of_length_le (by rw [placesB_length]; exact Nat.le_refl _)] at hby
    have C := Lib.hid (reb_any w1.heap.size _ (placesB b58D cs) 58 256 w1 hby (Nat.le_refl _) (by rw [placesB_length]; have := HL.out; omega) (by omega) (by omega) (by omega) (by omega) hsm)
    have HA := Lib.hid hall
    have HB := Lib.hid hb1
    clear hall hrow hby hsm hb1
    go_wp2_with fail
    refine C.out.mono ?_
    rintro e w2 ⟨v, out, rfl, hreb, hown, hb2⟩
    have HO := Lib.hid (own_base8 hown HB.out.size)
    have HB2 := Lib.hid (HB.out.trans (hb2.mono HB.out.size))
    have HD := Lib.hid (show Dec cs 0 out from .inr (.inr ⟨by rw [HL.out]; omega, HA.out, rfl, hreb⟩))
    obtain ⟨A, c, rfl⟩ := hown.form
    clear hreb hown hb2
    go_wp2_with fail
    go_ret2
    exact ⟨0, _, out, HD.out, rfl, HO.out, HB2.out⟩
  · have HD := Lib.hid (show Dec cs 3 [] from .inr (.inl ⟨by rw [HL.out]; omega, hbad, rfl, rfl⟩))
    have HB := Lib.hid hb1
    clear hbad hb1
    go_wp2_with fail
    go_ret2
    exact ⟨3, _, [], HD.out, rfl, OwnB.nil _ _, HB.out⟩

/-- The checksum. -/
def sum4 (b : List UInt8) : List UInt8 := (sha256 (sha256 b)).take 4
theorem sum4_length (b : List UInt8) : (sum4 b).length = 4 := by unfold sum4; rw [List.length_take, sha256_length]; rfl
theorem zero_hash8 (W : World) : (zeroValue 58).run Tryd.prog W = .ok (.agg ((List.replicate 32 (0 : Int)).map (Value.int .u8)).toArray) W := by kernel_rfl
theorem row_four {w : World} {g : Nat} {t : TypeId} {bs : List UInt8} (h : IRow w g t .u8 (nums bs)) (hl : bs.length = 32) : Byt w w.heap.size (.slice (some ⟨g, 0, none⟩) 4 32) (bs.take 4) := by
  have hb := (h.bytes (by rw [hl]; unfold maxLen; omega)).more (show g + 1 ≤ w.heap.size from h.lt)
  rw [hl] at hb
  obtain ⟨A', c', e, h1, h2, h3, h4⟩ := hb
  obtain ⟨e1, _, e3⟩ := Value.slice.inj e
  subst e1 e3
  have hl4 : (bs.take 4).length = 4 := by rw [List.length_take]; omega
  refine ⟨_, 32, by rw [hl4], by omega, h2, (by intro h; cases h), fun _ => ?_⟩
  obtain ⟨b, o, e', hb', hc⟩ := h4 (by rintro rfl; simp at hl)
  refine ⟨b, o, e', hb', fun j u hu => hc j u ?_⟩
  rw [List.getElem?_take] at hu
  split at hu
  · exact hu
  · cases hu
set_option maxRecDepth 100000 in
set_option maxHeartbeats 1600000 in
theorem sum58_any (B : Nat) (x : Value) (b : List UInt8) (w : World) (hx : Byt w B x b) (hB : B ≤ w.heap.size) (hl : b.length ≤ 100000) (hr : Roots w) :
    Calls Tryd.prog 22 #[x] w fun e w' => ∃ H, e = .returned (.slice (some ⟨H, 0, none⟩) 4 32) ∧ w.heap.size ≤ H ∧ Byt w' w'.heap.size (.slice (some ⟨H, 0, none⟩) 4 32) (sum4 b) ∧ Below w.heap.size w w' := by
  have C1 := Lib.hid (double_any B x b w hx hB (by omega) hr)
  obtain ⟨A, c, rfl⟩ := hx.form
  clear hx hr
  go_enter Tryd.func22, Tryd.ntmps22
  go_wp2_with fail
  refine C1.out.mono ?_
  rintro e w2 ⟨rfl, hb2⟩
  obtain ⟨D, hD⟩ : ∃ D, D = sha256 (sha256 b) := ⟨_, rfl⟩
  have hDl : D.length = 32 := by rw [hD]; exact sha256_length _
  rw [← hD]
  unfold digV
  have hsz : (nums D).length = 32 := by rw [nums_length, hDl]
  have HI := Lib.hid (show (Tryd.prog.info? 58).map (·.size) = some (nums D).length by rw [hsz]; exact info_h)
  have HL := Lib.hid (show (List.replicate 32 (0 : Int)).length = (nums D).length by rw [hsz]; rfl)
  have RC := Lib.hid (IRow.new w2 58 .u8 (List.replicate 32 0))
  have HB := Lib.hid hb2
  have HD := Lib.hid hD
  have HDL := Lib.hid hDl
  have hzh := zero_hash8
  clear hD hDl hsz hb2
  go_upto_region 2 with (refine wpList_store_irow rfl 58 (.tmp 3) (.tmp 5) rfl (g := w2.heap.size) (t := 58) (k := .u8) (xs := List.replicate 32 0) (ys := nums D) rfl rfl RC.out HI.out HL.out ?_)
  change Code.wp _ _ _ _ ((w2.alloc (.cells ((List.replicate 32 (0 : Int)).map (Value.int .u8)).toArray 58)).setRow w2.heap.size ((nums D).map (Value.int .u8)).toArray)
  obtain ⟨w3, hw3⟩ : ∃ x, x = (w2.alloc (.cells ((List.replicate 32 (0 : Int)).map (Value.int .u8)).toArray 58)).setRow w2.heap.size ((nums D).map (Value.int .u8)).toArray := ⟨_, rfl⟩
  rw [← hw3]
  have bC : Below w2.heap.size w2 w3 := by rw [hw3]; exact below_setRow ((Below.refl _ w2).alloc (Nat.le_refl _) _) (Nat.le_refl _) _
  have r3 : IRow w3 w2.heap.size 58 .u8 (nums D) := by rw [hw3]; exact setRow_irow RC.out
  have HF := Lib.hid (row_four r3 HDL.out)
  have HB3 := Lib.hid (HB.out.trans (bC.mono HB.out.size))
  clear hw3 bC r3 RC
  try dsimp only [Act.put]
  go_wp2_with fail
  go_ret
  exact ⟨_, rfl, HB.out.size, by unfold sum4; rw [← HD.out]; exact HF.out, HB3.out⟩

set_option maxRecDepth 100000 in
set_option maxHeartbeats 1600000 in
theorem check58_any (B : Nat) (x : Value) (b : List UInt8) (w : World) (hx : Byt w B x b) (hB : B ≤ w.heap.size) (hl : b.length ≤ 200) (hr : Roots w) :
    Calls Tryd.prog 8 #[x] w fun e w' => ∃ out, e = .returned (.string ⟨(letters b58D out).toArray⟩) ∧ RebOf 58 256 (b ++ sum4 b) out ∧ Below w.heap.size w w' := by
  have C1 := Lib.hid (sum58_any B x b w hx hB (by omega) hr)
  have HX := Lib.hid hx
  obtain ⟨A, c, rfl⟩ := hx.form
  obtain ⟨bs, hbs⟩ : ∃ bs, bs = b ++ sum4 b := ⟨_, rfl⟩
  rw [← hbs]
  have HBS := Lib.hid hbs
  clear hx hr hbs
  go_enter Tryd.func8, Tryd.ntmps8
  go_wp2_with fail
  refine C1.out.mono ?_
  rintro e w2 ⟨H, rfl, hH, hby, hb2⟩
  have hbag := BagR.made w2 22 [.slice A b.length c, .slice (some ⟨H, 0, none⟩) 4 32] [(.slice A b.length c, b), (.slice (some ⟨H, 0, none⟩) 4 32, sum4 b)] rfl (by unfold maxLen; simp) (by
    intro p hp
    simp only [List.mem_cons, List.not_mem_nil, or_false] at hp
    rcases hp with rfl | rfl
    · exact (HX.out.below (hb2.mono hB)).more (Nat.le_trans hB hb2.size)
    · exact hby)
  have hj : joined [((.slice A b.length c : Value), b), (.slice (some ⟨H, 0, none⟩) 4 32, sum4 b)] = b ++ sum4 b := by unfold joined; simp
  have C2 := concat_any (w2.heap.size + 1) _ _ (w2.alloc (.cells #[.slice A b.length c, .slice (some ⟨H, 0, none⟩) 4 32] 22)) hbag (by simp) (by rw [← joined_length, hj, List.length_append, sum4_length]; omega)
  rw [hj] at C2
  have HC2 := Lib.hid C2
  have HB2 := Lib.hid (hb2.alloc hb2.size (.cells #[.slice A b.length c, .slice (some ⟨H, 0, none⟩) 4 32] 22))
  have hlj : (b ++ sum4 b).length ≤ 204 := by rw [List.length_append, sum4_length]; omega
  rw [← HBS.out] at HC2 hlj
  clear hbag hj C2 hby hb2
  go_wp2_with fail
  refine HC2.out.mono ?_
  intro e w3 hfr
  obtain ⟨v3, rfl, hown3, hb3⟩ := fresh_v hfr
  have HB3 := Lib.hid (HB2.out.trans (hb3.mono (by have := HB2.out.size; simpa using this)))
  have C3 := Lib.hid (base58_any w3.heap.size v3 bs w3 (Byt.of_own hown3) (Nat.le_refl _) (by omega))
  obtain ⟨A3, c3, rfl⟩ := hown3.form
  clear hfr hown3 hb3
  go_wp2_with fail
  refine C3.out.mono ?_
  rintro e w4 ⟨out, rfl, hreb, hb4⟩
  have HB4 := Lib.hid (HB3.out.trans (hb4.mono HB3.out.size))
  have HR := Lib.hid hreb
  clear hreb hb4
  go_wp2_with fail
  go_ret
  exact ⟨out, rfl, HR.out, HB4.out⟩
end Go.Proofs.YtehodjbjioepnaaDoor

/-
  The references' Equal, and the laws' short. Conditions: none.
-/
namespace Go.Proofs.YtehodjbjioepnaaDoor
open Go.RowKit

set_option maxRecDepth 100000 in
set_option maxHeartbeats 400000 in
theorem equal_any (B B' : Nat) (x y : Value) (xs ys : List UInt8) (w : World) (hx : Byt w B x xs) (hy : Byt w B' y ys) :
    Calls Tryd.prog 14 #[x, y] w fun e w' => e = .returned (.bool (xs == ys)) ∧ w = w' := by
  have h1 := run_string_of (P := Tryd.prog) w 22 9 5 slice_u8 Tryd.underlying5 Tryd.underlying9 B x xs hx
  have h2 := run_string_of (P := Tryd.prog) w 22 9 5 slice_u8 Tryd.underlying5 Tryd.underlying9 B' y ys hy
  go_enter Tryd.func14, Tryd.ntmps14
  go_wp2
  go_ret
  exact ⟨rfl, rfl⟩

theorem equal_yes (B B' : Nat) (x y : Value) (xs ys : List UInt8) (w : World) (hx : Byt w B x xs) (hy : Byt w B' y ys) (h : xs = ys) :
    Calls Tryd.prog 14 #[x, y] w fun e w' => e = .returned (.bool true) ∧ w = w' :=
  (equal_any B B' x y xs ys w hx hy).mono fun _ _ ⟨he, hw⟩ => ⟨by rw [he, h]; simp, hw⟩

theorem Byt.take_ {w : World} {B c : Nat} {A : Option Addr} {xs : List UInt8} (h : Byt w B (.slice A xs.length c) xs) {k : Nat} (hk : k ≤ xs.length) : Byt w B (.slice A k c) (xs.take k) := by
  obtain ⟨A', c', e, h1, h2, h3, h4⟩ := h
  injection e with e1 e2 e3
  subst e1 e3
  refine ⟨A, c, by rw [List.length_take, Nat.min_eq_left hk], by rw [List.length_take]; omega, h2, fun h => ?_, fun hne => ?_⟩
  · obtain ⟨rfl, hc⟩ := h3 h
    exact ⟨by simp, hc⟩
  · obtain ⟨b, o, e1, hb, hc⟩ := h4 (by rintro rfl; simp at hne)
    refine ⟨b, o, e1, hb, fun j u hu => hc j u ?_⟩
    rw [List.getElem?_take] at hu
    split at hu
    · exact hu
    · cases hu

set_option maxRecDepth 100000 in
set_option maxHeartbeats 400000 in
theorem short_any (n B : Nat) (x : Value) (xs : List UInt8) (w : World) (hx : Byt w B x xs) (hn : n ≤ 60000) :
    Calls Tryd.prog 5 #[x, .int .i64 n] w fun e w' => (∃ y, e = .returned y ∧ Byt w B y (xs.take n)) ∧ w = w' := by
  have hl := hx.len
  obtain ⟨A, c, rfl⟩ := hx.form
  obtain ⟨hc1, hc2⟩ := hx.cap
  unfold maxLen at hl
  by_cases h : n < xs.length
  · have ht := hx.take_ (k := n) (by omega)
    have HT := Lib.hid ht
    have he : c = 0 → False := fun h0 => by omega
    clear hx ht
    go_enter Tryd.func5, Tryd.ntmps5
    go_wp2
    go_ret
    exact ⟨⟨_, rfl, HT.out⟩, rfl⟩
  · have ht : xs.take n = xs := List.take_of_length_le (by omega)
    have HT := Lib.hid ht
    have HX := Lib.hid hx
    clear hx ht
    go_enter Tryd.func5, Tryd.ntmps5
    go_wp2
    go_ret
    exact ⟨⟨_, rfl, by rw [HT.out]; exact HX.out⟩, rfl⟩
end Go.Proofs.YtehodjbjioepnaaDoor

/-
  FromCheck58, the program's. Conditions: sizes within the reach; the roots are laid.
-/
namespace Go.Proofs.YtehodjbjioepnaaDoor
open Go.RowKit

theorem byt_drewN {w : World} {B : Nat} {v : Value} {xs : List UInt8} (h : Byt w B v xs) (n : Nat) : Byt (w.drewN n) B v xs := h.keep fun _ _ _ => rfl

/-- What the checksum says. -/
def chkF (k : Int) (out : List UInt8) : Int × List UInt8 :=
  if k ≠ 0 then (k, []) else if out.length < 4 then (4, []) else if sum4 (out.take (out.length - 4)) = out.drop (out.length - 4) then (0, out.take (out.length - 4)) else (5, [])
def RChk (w : World) (cs : List UInt8) (e : Ending) (w' : World) : Prop := ∃ k out v, Dec cs k out ∧ e = .returned (.tuple #[v, .int .i64 (chkF k out).1]) ∧ Byt w' w'.heap.size v (chkF k out).2 ∧ Below w.heap.size w w'
theorem dec_small {cs out : List UInt8} {k : Int} (h : Dec cs k out) : out.length ≤ 2300 ∧ 0 ≤ k ∧ k ≤ 3 := by
  rcases h with ⟨_, rfl, rfl⟩ | ⟨_, _, rfl, rfl⟩ | ⟨h1, h2, rfl, h3⟩
  · exact ⟨by simp, by omega, by omega⟩
  · exact ⟨by simp, by omega, by omega⟩
  · have := reb_length h3 (by omega) (by omega) (by omega) (fun d hd => by
      unfold placesB at hd
      obtain ⟨c1, hc1, rfl⟩ := List.mem_map.1 hd
      have a2 := posB_range8 b58D c1
      have a3 := h2 c1 hc1
      have a4 := b8_toNat (posB b58D c1)
      have h58' : (b58D.size : Int) = 58 := rfl
      omega)
    rw [placesB_length] at this
    exact ⟨by omega, by omega, by omega⟩
theorem run_to (A : Option Addr) (n c m : Nat) (hm : m ≤ c) (h0 : 0 < c) (W : World) :
    (Instr.slice 22 (.slice A n c) none (some (.int .i64 (m : Int))) none).run Tryd.prog W = .ok (.slice A m c) W := by
  obtain ⟨i0, hi, hz0, hz1, hz2⟩ := info_parts info_u8
  have he : Tryd.prog.elem 22 = 5 := by kernel_rfl
  have ht : Tryd.prog.underlying 22 = some (.slice (Tryd.prog.elem 22)) := by rw [he]; exact slice_u8
  rw [run_slice_h (ht := ht) (h0 := by omega) (h2 := by omega), he]
  have hc0 : ¬ c = 0 := by omega
  simp [sizeOf, typeInfo, hi, hz1, sliced, go_sem, hc0]
theorem run_to3 (A : Option Addr) (n c m : Nat) (hm : m ≤ c) (W : World) :
    (Instr.slice 22 (.slice A n c) none (some (.int .i64 (m : Int))) (some (.int .i64 (m : Int)))).run Tryd.prog W = .ok (.slice A m m) W := by
  obtain ⟨i0, hi, hz0, hz1, hz2⟩ := info_parts info_u8
  have he : Tryd.prog.elem 22 = 5 := by kernel_rfl
  have ht : Tryd.prog.underlying 22 = some (.slice (Tryd.prog.elem 22)) := by rw [he]; exact slice_u8
  rw [run_slice_hm (ht := ht) (h0 := by omega) (h2 := by omega) (h3 := by omega), he]
  by_cases h0 : m = 0
  · subst h0
    simp [sizeOf, typeInfo, hi, hz1, sliced, go_sem]
  · simp [sizeOf, typeInfo, hi, hz1, sliced, go_sem, h0]

theorem byt_cap {w : World} {B c : Nat} {A : Option Addr} {xs : List UInt8} (h : Byt w B (.slice A xs.length c) xs) {k : Nat} (hk : k ≤ xs.length) : Byt w B (.slice A k k) (xs.take k) := by
  obtain ⟨A', c', e, h1, h2, h3, h4⟩ := h
  injection e with e1 e2 e3
  subst e1 e3
  have hm : k ≤ maxLen := by omega
  refine ⟨A, k, by rw [List.length_take, Nat.min_eq_left hk], by rw [List.length_take]; omega, hm, fun h => ?_, fun hne => ?_⟩
  · obtain ⟨rfl, hc⟩ := h3 h
    simp at hk
    subst hk
    exact ⟨by simp, rfl⟩
  · obtain ⟨b, o, e1, hb, hc⟩ := h4 (by rintro rfl; simp at hne)
    refine ⟨b, o, e1, hb, fun j u hu => hc j u ?_⟩
    rw [List.getElem?_take] at hu
    split at hu
    · exact hu
    · cases hu

set_option maxRecDepth 100000 in
set_option maxHeartbeats 400000 in
theorem bequal_any (B B' : Nat) (x y : Value) (xs ys : List UInt8) (w : World) (hx : Byt w B x xs) (hy : Byt w B' y ys) :
    Calls Tryd.prog 25 #[x, y] w fun e w' => e = .returned (.bool (xs == ys)) ∧ w = w' := by
  have h1 := run_string_of (P := Tryd.prog) w 22 9 5 slice_u8 Tryd.underlying5 Tryd.underlying9 B x xs hx
  have h2 := run_string_of (P := Tryd.prog) w 22 9 5 slice_u8 Tryd.underlying5 Tryd.underlying9 B' y ys hy
  go_enter Tryd.func25, Tryd.ntmps25
  go_wp2
  go_ret
  exact ⟨rfl, rfl⟩

set_option maxRecDepth 100000 in
set_option maxHeartbeats 6400000 in
theorem fromcheck58_any (s : ByteArray) (w : World) (hr : Roots w) : Calls Tryd.prog 13 #[.string s] w (RChk w s.data.toList) := by
  obtain ⟨cs, hcs⟩ : ∃ cs, cs = s.data.toList := ⟨_, rfl⟩
  have C := from58_any s w
  rw [← hcs] at C ⊢
  have C := Lib.hid C
  have HR := Lib.hid hr
  clear hr hcs
  go_enter Tryd.func13, Tryd.ntmps13
  go_wp2_with fail
  refine C.out.mono ?_
  rintro e w1 ⟨k, v, out, hd, rfl, hown, hb⟩
  obtain ⟨ho, hk0, hk3⟩ := dec_small hd
  have hby := Byt.of_own hown
  obtain ⟨A, c, rfl⟩ := hby.form
  obtain ⟨n, hn⟩ : ∃ n, n = out.length := ⟨_, rfl⟩
  have HD := Lib.hid hd
  have HB := Lib.hid hb
  have hcap := hby.cap
  by_cases hk : k = 0
  · subst hk
    by_cases h4 : n < 4
    · have hc : chkF 0 out = (4, []) := by unfold chkF; rw [if_neg (by simp), if_pos (by omega)]
      have HC := Lib.hid hc
      have d4 : decide ((n : Int) < 4) = true := decide_eq_true (by omega)
      rw [← hn]
      clear hd hb hown hby hn hc hcap
      go_wp2_with fail
      go_ret2
      exact ⟨0, out, .slice none 0 0, HD.out, by rw [HC.out]; rfl, by rw [HC.out]; exact Byt.nil _ _, HB.out⟩
    · have d4 : decide ((n : Int) < 4) = false := decide_eq_false (by omega)
      obtain ⟨m, hm⟩ : ∃ m, n = m + 4 := ⟨n - 4, by omega⟩
      have hw : IntKind.i64.wrap ((n : Int) - 4) = (m : Int) := by rw [IntWalk.i64_in _ (by omega)]; omega
      obtain ⟨L, hL⟩ : ∃ L, L = out.take m := ⟨_, rfl⟩
      obtain ⟨T, hT⟩ : ∃ T, T = out.drop m := ⟨_, rfl⟩
      have hLl : L.length = m := by rw [hL, List.length_take]; omega
      have hTl : T.length = 4 := by rw [hT, List.length_drop]; omega
      have hc : chkF 0 out = if (T == sum4 L) = true then (0, L) else (5, []) := by
        unfold chkF
        rw [if_neg (by simp), if_neg (by omega), ← hn, hm, Nat.add_sub_cancel, ← hL, ← hT]
        by_cases h : sum4 L = T
        · rw [if_pos h, if_pos (by rw [h]; simp)]
        · rw [if_neg h, if_neg (by simp; exact fun e => h e.symm)]
      obtain ⟨q, hq⟩ : ∃ q, q = (T == sum4 L) := ⟨_, rfl⟩
      rw [← hq] at hc
      have HQ := Lib.hid hq
      have hsz := hb.size
      have r1 : Roots w1 := HR.out.below hb
      have sa := run_tail A n c m (by omega)
      have sb := run_to A n c m (by omega) (by omega)
      have s3 := run_to3 A n c m (by omega)
      obtain ⟨A2, hA2⟩ : ∃ A2, A2 = if c = m then A else A.map (fun x => x.add m) := ⟨_, rfl⟩
      have hnm : n - m = 4 := by omega
      rw [← hA2, hnm] at sa
      have tT : Byt w1 w1.heap.size (.slice A2 4 (c - m)) T := by
        have h := hby.tail (k := m) (by omega)
        rw [← hA2, ← hn, hnm, ← hT] at h
        exact h
      have tL : Byt w1 w1.heap.size (.slice A m c) L := by
        have h := hby.take_ (k := m) (by omega)
        rw [← hL] at h
        exact h
      have tM : Byt w1 w1.heap.size (.slice A m m) L := by
        have h := byt_cap hby (k := m) (by omega)
        rw [← hL] at h
        exact h
      have TT := Lib.hid tT
      have TM := Lib.hid tM
      have CS := Lib.hid (fun k1 => sum58_any w1.heap.size (.slice A m c) L (w1.drewN k1) (byt_drewN tL k1) (Nat.le_refl _) (by omega) (r1.below (show Below w1.heap.size w1 (w1.drewN k1) from ⟨rfl, rfl, rfl, Nat.le_refl _, fun _ _ => rfl⟩)))
      have HC := Lib.hid hc
      rw [← hn]
      clear hd hb hown hby hn hc hcap hL hT hLl hTl r1 tT tL tM hA2 hm hq
      go_wp2_with fail
      refine wp_region_held_drew (S := AnyW) (by kernel_rfl) ?_ (fun hHeld => ?_)
      · exact anyW _
      refine wpAnyH_take (i := 0) (oi := { dst := some 21, op := Go.Op.move (Go.Operand.tmp 4), type := 22, pos := "base58.go:45", after := #[], guard := none }) (v := ?av0) rfl (by kernel_rfl) (by kernel_rfl) (by kernel_rfl) (fun _ _ _ h => h) (Or.inl ⟨by rfl, ?ay0⟩) (by assumption) ?ar0
      case ay0 => (intro w hSw; (try dsimp only at hSw); go_simp; try (with_reducible rfl))
      case ar0 =>
      try simp only [Act.put, List.setIfInBounds_toArray, List.set_cons_zero, List.set_cons_succ]
      refine wpAnyH_take (i := 1) (oi := { dst := some 22, op := Go.Op.move (Go.Operand.tmp 6), type := 3, pos := "base58.go:45", after := #[], guard := none }) (v := ?av1) rfl (by kernel_rfl) (by kernel_rfl) (by kernel_rfl) (fun _ _ _ h => h) (Or.inl ⟨by rfl, ?ay1⟩) (by assumption) ?ar1
      case ay1 => (intro w hSw; (try dsimp only at hSw); go_simp; try (with_reducible rfl))
      case ar1 =>
      try simp only [Act.put, List.setIfInBounds_toArray, List.set_cons_zero, List.set_cons_succ]
      refine wpAnyH_take (i := 2) (oi := { dst := some 23, op := Go.Op.slice 22 (Go.Operand.tmp 21) (some (Go.Operand.tmp 22)) none none, type := 22, pos := "base58.go:45", after := #[{ on := 0, ground := Go.Ground.data }, { on := 1, ground := Go.Ground.data }], guard := none }) (v := (.slice A2 4 (c - m))) rfl (by kernel_rfl) (by kernel_rfl) (by kernel_rfl) (fun _ _ _ h => h) (Or.inl ⟨by rfl, ?ay2⟩) (by assumption) ?ar2
      case ay2 => (intro w hSw; (try dsimp only at hSw); go_simp; try (with_reducible rfl))
      case ar2 =>
      try simp only [Act.put, List.setIfInBounds_toArray, List.set_cons_zero, List.set_cons_succ]
      refine wpAnyH_take (i := 3) (oi := { dst := some 24, op := Go.Op.move (Go.Operand.tmp 4), type := 22, pos := "base58.go:45", after := #[], guard := none }) (v := ?av3) rfl (by kernel_rfl) (by kernel_rfl) (by kernel_rfl) (fun _ _ _ h => h) (Or.inl ⟨by rfl, ?ay3⟩) (by assumption) ?ar3
      case ay3 => (intro w hSw; (try dsimp only at hSw); go_simp; try (with_reducible rfl))
      case ar3 =>
      try simp only [Act.put, List.setIfInBounds_toArray, List.set_cons_zero, List.set_cons_succ]
      refine wpAnyH_take (i := 4) (oi := { dst := some 25, op := Go.Op.move (Go.Operand.tmp 6), type := 3, pos := "base58.go:45", after := #[], guard := none }) (v := ?av4) rfl (by kernel_rfl) (by kernel_rfl) (by kernel_rfl) (fun _ _ _ h => h) (Or.inl ⟨by rfl, ?ay4⟩) (by assumption) ?ar4
      case ay4 => (intro w hSw; (try dsimp only at hSw); go_simp; try (with_reducible rfl))
      case ar4 =>
      try simp only [Act.put, List.setIfInBounds_toArray, List.set_cons_zero, List.set_cons_succ]
      refine wpAnyH_take (i := 5) (oi := { dst := some 26, op := Go.Op.slice 22 (Go.Operand.tmp 24) none (some (Go.Operand.tmp 25)) none, type := 22, pos := "base58.go:45", after := #[{ on := 3, ground := Go.Ground.data }, { on := 4, ground := Go.Ground.data }], guard := none }) (v := (.slice A m c)) rfl (by kernel_rfl) (by kernel_rfl) (by kernel_rfl) (fun _ _ _ h => h) (Or.inl ⟨by rfl, ?ay5⟩) (by assumption) ?ar5
      case ay5 => (intro w hSw; (try dsimp only at hSw); go_simp; try (with_reducible rfl))
      case ar5 =>
      try simp only [Act.put, List.setIfInBounds_toArray, List.set_cons_zero, List.set_cons_succ]
      refine wpAnyH_ready (rs := [6]) (by kernel_rfl) (by simp) ?_
      refine AllReadyH.cons (o := { dst := some 27, op := Go.Op.call { callee := Go.Callee.value (Go.Operand.func 22), args := #[Go.Operand.tmp 26], argTypes := #[22] }, type := 22, pos := "base58.go:45", after := #[{ on := 5, ground := Go.Ground.data }], guard := none }) rfl (fun K hK => ?_) (AllReadyH.nil)
      go_simp
      refine (CS.out _).mono ?_
      rintro e w2 ⟨H, rfl, hH, hby2, hb2⟩
      have HB2 := Lib.hid hb2
      have HY2 := Lib.hid hby2
      clear hb2 hby2 hH
      go_simp
      refine hK.out _ _ ?_ (fun hHeld => ?_)
      · exact anyW _
      clear hK K
      try simp only [Act.put, List.setIfInBounds_toArray, List.set_cons_zero, List.set_cons_succ]
      refine wpAnyH_ready (rs := [7]) (by kernel_rfl) (by simp) ?_
      refine AllReadyH.cons (o := { dst := some 28, op := Go.Op.call { callee := Go.Callee.value (Go.Operand.func 25), args := #[Go.Operand.tmp 23, Go.Operand.tmp 27], argTypes := #[22, 22] }, type := 4, pos := "base58.go:45", after := #[{ on := 2, ground := Go.Ground.data }, { on := 6, ground := Go.Ground.data }, { on := 6, ground := Go.Ground.chain }], guard := none }) rfl (fun K hK => ?_) (AllReadyH.nil)
      go_simp
      refine (bequal_any w1.heap.size _ (.slice A2 4 (c - m)) (.slice (some ⟨H, 0, none⟩) 4 32) T (sum4 L) _ ((byt_drewN TT.out _).below HB2.out) HY2.out).mono ?_
      rintro e w3 ⟨rfl, rfl⟩
      rw [← HQ.out]
      go_simp
      refine hK.out _ _ ?_ (fun hHeld => ?_)
      · exact anyW _
      clear hK K
      try simp only [Act.put, List.setIfInBounds_toArray, List.set_cons_zero, List.set_cons_succ]
      refine wpAnyH_take (i := 8) (oi := { dst := some 29, op := Go.Op.unOp Go.UnOp.not 4 (Go.Operand.tmp 28), type := 4, pos := "base58.go:45", after := #[{ on := 7, ground := Go.Ground.data }], guard := none }) (v := ?a_6_7v8) rfl (by kernel_rfl) (by kernel_rfl) (by kernel_rfl) (fun _ _ _ h => h) (Or.inl ⟨by rfl, ?a_6_7y8⟩) (by assumption) ?a_6_7r8
      case a_6_7y8 => (intro w hSw; (try dsimp only at hSw); go_simp; try (with_reducible rfl))
      case a_6_7r8 =>
      try simp only [Act.put, List.setIfInBounds_toArray, List.set_cons_zero, List.set_cons_succ]
      refine wpAnyH_done (by kernel_rfl) ?_ _
      have hbb := HB.out.trans ((show Below w1.heap.size w1 (w1.drewN 1) from ⟨rfl, rfl, rfl, Nat.le_refl _, fun _ _ => rfl⟩).trans HB2.out |>.mono hsz)
      cases q
      · rw [if_neg (by simp)] at HC
        trace_state
        go_wp2_with fail
        go_ret2
        exact ⟨0, out, .slice none 0 0, HD.out, by rw [HC.out]; rfl, by rw [HC.out]; exact Byt.nil _ _, hbb⟩
      · rw [if_pos rfl] at HC
        go_wp2_with fail
        go_ret2
        exact ⟨0, out, .slice A m m, HD.out, by rw [HC.out]; rfl, by rw [HC.out]; exact ((byt_drewN TM.out _).below HB2.out).more (by have := HB2.out.size; simpa using this), hbb⟩
  · have hc : chkF k out = (k, []) := by unfold chkF; rw [if_pos hk]
    have HC := Lib.hid hc
    have d4 : (k != (0 : Int)) = true := by simp only [bne_iff_ne, ne_eq]; exact hk
    rw [← hn]
    clear hd hb hown hby hn hc hcap hk
    go_wp2_with fail
    go_ret2
    exact ⟨k, out, .slice none 0 0, HD.out, by rw [HC.out]; rfl, by rw [HC.out]; exact Byt.nil _ _, HB.out⟩
end Go.Proofs.YtehodjbjioepnaaDoor

/-
  The reference's Check58 and FromCheck58. Conditions: sizes within the reach.
-/
namespace Go.Proofs.YtehodjbjioepnaaDoor
open Go.RowKit

set_option maxRecDepth 100000 in
set_option maxHeartbeats 6400000 in
theorem refcheck58_any (B : Nat) (x : Value) (b : List UInt8) (w : World) (hx : Byt w B x b) (hB : B ≤ w.heap.size) (hl : b.length ≤ 190) :
    Calls Tryd.prog 10 #[x] w fun e w' => ∃ out, e = .returned (.string ⟨(letters b58D out).toArray⟩) ∧ RebOf 58 256 (b ++ sum4 b) out ∧ Below w.heap.size w w' := by
  obtain ⟨i0, hi, hz0, hz1, hz2⟩ := info_parts info_u8
  have C1 := Lib.hid (rdouble_any B x b w hx hB (by omega))
  have HX := Lib.hid hx
  obtain ⟨A, c, rfl⟩ := hx.form
  clear hx
  go_enter Tryd.func10, Tryd.ntmps10
  go_wp2_with fail
  refine C1.out.mono ?_
  rintro e w2 ⟨rfl, hb2⟩
  obtain ⟨D, hD⟩ : ∃ D, D = sha256 (sha256 b) := ⟨_, rfl⟩
  have hDl : D.length = 32 := by rw [hD]; exact sha256_length _
  have hs4 : D.take 4 = sum4 b := by unfold sum4; rw [hD]
  rw [← hD]
  unfold digV
  have hsz : (nums D).length = 32 := by rw [nums_length, hDl]
  have HI := Lib.hid (show (Tryd.prog.info? 41).map (·.size) = some (nums D).length by rw [hsz]; exact info_h27)
  have HL := Lib.hid (show (List.replicate 32 (0 : Int)).length = (nums D).length by rw [hsz]; rfl)
  have RC := Lib.hid (IRow.new w2 41 .u8 (List.replicate 32 0))
  have HB := Lib.hid hb2
  have HX2 := Lib.hid (HX.out.below (hb2.mono hB))
  have HS4 := Lib.hid hs4
  have HDL := Lib.hid hDl
  clear hD hDl hsz hb2 hs4
  go_upto_region 2 with (refine wpList_store_irow rfl 41 (.tmp 3) (.tmp 5) rfl (g := w2.heap.size) (t := 41) (k := .u8) (xs := List.replicate 32 0) (ys := nums D) rfl rfl RC.out HI.out HL.out ?_)
  change Code.wp _ _ _ _ ((w2.alloc (.cells ((List.replicate 32 (0 : Int)).map (Value.int .u8)).toArray 41)).setRow w2.heap.size ((nums D).map (Value.int .u8)).toArray)
  obtain ⟨w3, hw3⟩ : ∃ x, x = (w2.alloc (.cells ((List.replicate 32 (0 : Int)).map (Value.int .u8)).toArray 41)).setRow w2.heap.size ((nums D).map (Value.int .u8)).toArray := ⟨_, rfl⟩
  rw [← hw3]
  have bC : Below w2.heap.size w2 w3 := by rw [hw3]; exact below_setRow ((Below.refl _ w2).alloc (Nat.le_refl _) _) (Nat.le_refl _) _
  have r3 : IRow w3 w2.heap.size 41 .u8 (nums D) := by rw [hw3]; exact setRow_irow RC.out
  have hf := row_four r3 HDL.out
  rw [HS4.out] at hf
  obtain ⟨H, hH⟩ : ∃ H, H = w2.heap.size := ⟨_, rfl⟩
  rw [← hH] at hf ⊢
  have HF := Lib.hid hf
  have HX3 := Lib.hid (HX2.out.below (bC.mono (Nat.le_trans hB HB.out.size)))
  have HB3 := Lib.hid (HB.out.trans (bC.mono HB.out.size))
  have hB3 : B ≤ w3.heap.size := Nat.le_trans hB HB3.out.size
  have HS := Lib.hid (sum4_length b)
  clear hw3 bC r3 RC hf hH HI HL HX2 HX C1 HB HDL HS4
  try dsimp only [Act.put]
  refine wp_region_held_drew (S := AnyW) (by kernel_rfl) ?_ (fun hHeld => ?_)
  · exact anyW _
  refine wpAnyH_take (i := 1) (oi := { dst := some 7, op := Go.Op.move (Go.Operand.tmp 0), type := 22, pos := "ref.go:112", after := #[], guard := none }) (v := ?av1) rfl (by kernel_rfl) (by kernel_rfl) (by kernel_rfl) (fun _ _ _ h => h) (Or.inl ⟨by rfl, ?ay1⟩) (by assumption) ?ar1
  case ay1 => (intro w hSw; (try dsimp only at hSw); go_simp; try (with_reducible rfl))
  case ar1 =>
  try simp only [Act.put, List.setIfInBounds_toArray, List.set_cons_zero, List.set_cons_succ]
  refine wpAnyH_take (i := 3) (oi := { dst := some 9, op := Go.Op.slice 41 (Go.Operand.tmp 3) none (some (Go.Operand.const (Go.Value.int Go.IntKind.i64 4))) none, type := 22, pos := "ref.go:112", after := #[], guard := none }) (v := ?av3) rfl (by kernel_rfl) (by kernel_rfl) (by kernel_rfl) (fun _ _ _ h => h) (Or.inl ⟨by rfl, ?ay3⟩) (by assumption) ?ar3
  case ay3 => (intro w hSw; (try dsimp only at hSw); go_simp; try (with_reducible rfl))
  case ar3 =>
  try simp only [Act.put, List.setIfInBounds_toArray, List.set_cons_zero, List.set_cons_succ]
  refine wpAnyH_ready (rs := [0]) (by kernel_rfl) (by simp) ?_
  refine AllReadyH.cons (o := { dst := some 6, op := Go.Op.buildSlice 22 0 #[], type := 22, pos := "ref.go:112", after := #[], guard := none }) rfl (fun K hK => ?_) (AllReadyH.nil)
  go_simp
  refine hK.out _ _ ?_ (fun hHeld => ?_)
  · exact anyW _
  clear hK K
  try simp only [Act.put, List.setIfInBounds_toArray, List.set_cons_zero, List.set_cons_succ]
  refine wpAnyH_ready (rs := [2]) (by kernel_rfl) (by simp) ?_
  refine AllReadyH.cons (o := { dst := some 8, op := Go.Op.call { callee := Go.Callee.builtin Go.Builtin.append, args := #[Go.Operand.tmp 6, Go.Operand.tmp 7], argTypes := #[22, 22] }, type := 22, pos := "ref.go:112", after := #[{ on := 0, ground := Go.Ground.data }, { on := 1, ground := Go.Ground.data }], guard := none }) rfl (fun K hK => ?_) (AllReadyH.nil)
  simp only [Region.wanted, if_true]
  refine op_append_bytes (.tmp 6) (.tmp 7) 22 rfl w3.heap.size 5 i0 slice_u8 hi hz0 hz1 hz2 _ 0 [] rfl (World.ownsRow_made w3.drew #[] 0 (Nat.le_refl _) (by unfold maxLen; omega) rfl) B _ b rfl (byt_later (byt_drewN HX3.out 1) _) (by omega) (by simp) ?_
  intro v4 w4 hown4 hg4 hat4
  rw [Nat.zero_add, List.nil_append] at hown4
  have hb4 : Below w3.heap.size w3 w4 := ((show Below w3.heap.size w3 w3.drew from ⟨rfl, rfl, rfl, Nat.le_refl _, fun _ _ => rfl⟩).alloc (Nat.le_refl _) _).grown hg4 (by simp) (fun k hk => by cases hk; exact Nat.le_refl _)
  have HO4 := Lib.hid hown4
  have HB4 := Lib.hid hb4
  have HF4 := Lib.hid (HF.out.below hb4)
  clear hown4 hg4 hat4 hb4
  refine hK.out _ _ ?_ (fun hHeld => ?_)
  · exact anyW _
  clear hK K
  try simp only [Act.put, List.setIfInBounds_toArray, List.set_cons_zero, List.set_cons_succ]
  refine wpAnyH_ready (rs := [4]) (by kernel_rfl) (by simp) ?_
  refine AllReadyH.cons (o := { dst := some 10, op := Go.Op.call { callee := Go.Callee.builtin Go.Builtin.append, args := #[Go.Operand.tmp 8, Go.Operand.tmp 9], argTypes := #[22, 22] }, type := 22, pos := "ref.go:112", after := #[{ on := 2, ground := Go.Ground.data }, { on := 3, ground := Go.Ground.data }, { on := 2, ground := Go.Ground.chain }], guard := none }) rfl (fun K hK => ?_) (AllReadyH.nil)
  simp only [Region.wanted, if_true]
  refine op_append_bytes (.tmp 8) (.tmp 9) 22 rfl w3.heap.size 5 i0 slice_u8 hi hz0 hz1 hz2 _ b.length (b.map bv) rfl HO4.out w3.heap.size _ (sum4 b) rfl HF4.out (by have := HS.out; omega) HB4.out.size ?_
  intro v5 w5 hown5 hg5 hat5
  have ho5 : OwnB w5 w3.heap.size v5 (b ++ sum4 b) := own_b hown5 rfl
  have hb5 : Below w3.heap.size w3 w5 := HB4.out.grown hg5 HB4.out.size (fun j hj => (World.ownsRow.lt HO4.out j hj).1)
  have HO5 := Lib.hid ho5
  have HB5 := Lib.hid hb5
  clear hown5 hg5 hat5 ho5 hb5
  refine hK.out _ _ ?_ (fun hHeld => ?_)
  · exact anyW _
  clear hK K
  try simp only [Act.put, List.setIfInBounds_toArray, List.set_cons_zero, List.set_cons_succ]
  refine wpAnyH_ready (rs := [5]) (by kernel_rfl) (by simp) ?_
  refine AllReadyH.cons (o := { dst := some 11, op := Go.Op.call { callee := Go.Callee.value (Go.Operand.func 9), args := #[Go.Operand.tmp 10], argTypes := #[22] }, type := 9, pos := "ref.go:112", after := #[{ on := 4, ground := Go.Ground.data }, { on := 4, ground := Go.Ground.chain }], guard := none }) rfl (fun K hK => ?_) (AllReadyH.nil)
  go_simp
  refine (refB58_any _ v5 (b ++ sum4 b) _ (Byt.of_own HO5.out) (Nat.le_refl _) (by rw [List.length_append, HS.out]; omega)).mono ?_
  rintro e w6 ⟨out, rfl, hreb, hb6⟩
  have HR := Lib.hid hreb
  have HB6 := Lib.hid (HB3.out.trans ((HB5.out.trans (hb6.mono HB5.out.size)).mono HB3.out.size))
  clear hreb hb6
  go_simp
  refine hK.out _ _ ?_ (fun hHeld => ?_)
  · exact anyW _
  clear hK K
  try simp only [Act.put, List.setIfInBounds_toArray, List.set_cons_zero, List.set_cons_succ]
  refine wpAnyH_take (i := 6) (oi := { dst := some 2, op := Go.Op.assign (Go.Operand.tmp 11), type := 9, pos := "ref.go:112", after := #[{ on := 5, ground := Go.Ground.data }, { on := 5, ground := Go.Ground.chain }, { on := 0, ground := Go.Ground.phase }, { on := 1, ground := Go.Ground.phase }, { on := 2, ground := Go.Ground.phase }, { on := 3, ground := Go.Ground.phase }, { on := 4, ground := Go.Ground.phase }, { on := 5, ground := Go.Ground.phase }], guard := none }) (v := ?a_0_2_4_5v6) rfl (by kernel_rfl) (by kernel_rfl) (by kernel_rfl) (fun _ _ _ h => h) (Or.inl ⟨by rfl, ?a_0_2_4_5y6⟩) (by assumption) ?a_0_2_4_5r6
  case a_0_2_4_5y6 => (intro w hSw; (try dsimp only at hSw); go_simp; try (with_reducible rfl))
  case a_0_2_4_5r6 =>
  try simp only [Act.put, List.setIfInBounds_toArray, List.set_cons_zero, List.set_cons_succ]
  refine wpAnyH_done (by kernel_rfl) ?_ _
  go_wp2_with fail
  go_ret
  exact ⟨out, rfl, HR.out, HB6.out⟩

set_option maxRecDepth 100000 in
set_option maxHeartbeats 6400000 in
theorem reffromcheck58_any (s : ByteArray) (w : World) : Calls Tryd.prog 16 #[.string s] w (RChk w s.data.toList) := by
  obtain ⟨cs, hcs⟩ : ∃ cs, cs = s.data.toList := ⟨_, rfl⟩
  have C := refFrom58_any s w
  rw [← hcs] at C ⊢
  have C := Lib.hid C
  clear hcs
  go_enter Tryd.func16, Tryd.ntmps16
  go_wp2_with fail
  refine C.out.mono ?_
  rintro e w1 ⟨k, v, out, hd, rfl, hown, hb⟩
  obtain ⟨ho, hk0, hk3⟩ := dec_small hd
  have hby := Byt.of_own hown
  obtain ⟨A, c, rfl⟩ := hby.form
  obtain ⟨n, hn⟩ : ∃ n, n = out.length := ⟨_, rfl⟩
  have HD := Lib.hid hd
  have HB := Lib.hid hb
  have hcap := hby.cap
  by_cases hk : k = 0
  · subst hk
    by_cases h4 : n < 4
    · have hc : chkF 0 out = (4, []) := by unfold chkF; rw [if_neg (by simp), if_pos (by omega)]
      have HC := Lib.hid hc
      have d4 : decide ((n : Int) < 4) = true := decide_eq_true (by omega)
      rw [← hn]
      clear hd hb hown hby hn hc hcap
      go_wp2_with fail
      go_ret2
      exact ⟨0, out, .slice none 0 0, HD.out, by rw [HC.out]; rfl, by rw [HC.out]; exact Byt.nil _ _, HB.out⟩
    · have d4 : decide ((n : Int) < 4) = false := decide_eq_false (by omega)
      obtain ⟨m, hm⟩ : ∃ m, n = m + 4 := ⟨n - 4, by omega⟩
      have hw : IntKind.i64.wrap ((n : Int) - 4) = (m : Int) := by rw [IntWalk.i64_in _ (by omega)]; omega
      obtain ⟨L, hL⟩ : ∃ L, L = out.take m := ⟨_, rfl⟩
      obtain ⟨T, hT⟩ : ∃ T, T = out.drop m := ⟨_, rfl⟩
      have hLl : L.length = m := by rw [hL, List.length_take]; omega
      have hTl : T.length = 4 := by rw [hT, List.length_drop]; omega
      have hc : chkF 0 out = if sum4 L = T then (0, L) else (5, []) := by
        unfold chkF
        rw [if_neg (by simp), if_neg (by omega), ← hn, hm, Nat.add_sub_cancel, ← hL, ← hT]
      have hsz := hb.size
      have sa := run_tail A n c m (by omega)
      have sb := run_to A n c m (by omega) (by omega)
      obtain ⟨A2, hA2⟩ : ∃ A2, A2 = if c = m then A else A.map (fun x => x.add m) := ⟨_, rfl⟩
      have hnm : n - m = 4 := by omega
      rw [← hA2, hnm] at sa
      have tT : Byt w1 w1.heap.size (.slice A2 4 (c - m)) T := by
        have h := hby.tail (k := m) (by omega)
        rw [← hA2, ← hn, hnm, ← hT] at h
        exact h
      have tL : Byt w1 w1.heap.size (.slice A m c) L := by
        have h := hby.take_ (k := m) (by omega)
        rw [← hL] at h
        exact h
      have TT := Lib.hid tT
      have TL := Lib.hid tL
      have C1 := Lib.hid (rdouble_any w1.heap.size (.slice A m c) L w1 tL (Nat.le_refl _) (by omega))
      have HC := Lib.hid hc
      rw [← hn]
      clear hd hb hown hby hn hc hcap hL hT hLl hTl tT tL hA2 hm
      go_wp2_with fail
      refine C1.out.mono ?_
      rintro e w2 ⟨rfl, hb2⟩
      obtain ⟨D, hD⟩ : ∃ D, D = sha256 (sha256 L) := ⟨_, rfl⟩
      have hDl : D.length = 32 := by rw [hD]; exact sha256_length _
      have hs4 : D.take 4 = sum4 L := by unfold sum4; rw [hD]
      rw [← hD]
      unfold digV
      have hsz3 : (nums D).length = 32 := by rw [nums_length, hDl]
      have HI := Lib.hid (show (Tryd.prog.info? 41).map (·.size) = some (nums D).length by rw [hsz3]; exact info_h27)
      have HL := Lib.hid (show (List.replicate 32 (0 : Int)).length = (nums D).length by rw [hsz3]; rfl)
      have RC := Lib.hid (IRow.new w2 41 .u8 (List.replicate 32 0))
      have HB2 := Lib.hid hb2
      have HS4 := Lib.hid hs4
      have HDL := Lib.hid hDl
      clear hD hDl hsz3 hb2 hs4 C1
      go_upto_region 7 with (refine wpList_store_irow rfl 41 (.tmp 6) (.tmp 23) rfl (g := w2.heap.size) (t := 41) (k := .u8) (xs := List.replicate 32 0) (ys := nums D) rfl rfl RC.out HI.out HL.out ?_)
      change Code.wp _ _ _ _ ((w2.alloc (.cells ((List.replicate 32 (0 : Int)).map (Value.int .u8)).toArray 41)).setRow w2.heap.size ((nums D).map (Value.int .u8)).toArray)
      obtain ⟨w3, hw3⟩ : ∃ x, x = (w2.alloc (.cells ((List.replicate 32 (0 : Int)).map (Value.int .u8)).toArray 41)).setRow w2.heap.size ((nums D).map (Value.int .u8)).toArray := ⟨_, rfl⟩
      rw [← hw3]
      have bC : Below w2.heap.size w2 w3 := by rw [hw3]; exact below_setRow ((Below.refl _ w2).alloc (Nat.le_refl _) _) (Nat.le_refl _) _
      have r3 : IRow w3 w2.heap.size 41 .u8 (nums D) := by rw [hw3]; exact setRow_irow RC.out
      have hf := row_four r3 HDL.out
      rw [HS4.out] at hf
      obtain ⟨H, hH⟩ : ∃ H, H = w2.heap.size := ⟨_, rfl⟩
      rw [← hH] at hf ⊢
      have b13 : Below w1.heap.size w1 w3 := HB2.out.trans (bC.mono HB2.out.size)
      have hsz13 := b13.size
      have HF := Lib.hid hf
      have TT3 := Lib.hid (TT.out.below b13)
      have TL3 := Lib.hid (TL.out.below b13)
      have HB3 := Lib.hid (HB.out.trans (b13.mono HB.out.size))
      clear hw3 bC r3 RC hf hH HI HL HDL HS4 b13 TT TL HB2
      try dsimp only [Act.put]
      obtain ⟨S1, hS1⟩ : ∃ S1 : ByteArray, S1 = ⟨(sum4 L).toArray⟩ := ⟨_, rfl⟩
      obtain ⟨S2, hS2⟩ : ∃ S2 : ByteArray, S2 = ⟨T.toArray⟩ := ⟨_, rfl⟩
      have HS1 := Lib.hid hS1
      have HS2 := Lib.hid hS2
      have hbe : (S1.toList == S2.toList) = (sum4 L == T) := by
        rw [hS1, hS2]
        simp [go_sem]
      have hbb := HB3.out.trans ((show Below w3.heap.size w3 (w3.drewN 1) from ⟨rfl, rfl, rfl, Nat.le_refl _, fun _ _ => rfl⟩).mono HB3.out.size)
      have HBB := Lib.hid hbb
      clear hS1 hS2 hbb
      by_cases hq : sum4 L = T
      · have hc := HC.out
        rw [if_pos hq] at hc
        have HC2 := Lib.hid hc
        have hd : (S1.toList == S2.toList) = true := by rw [hbe, hq]; simp
        clear hc hq hbe
        refine wp_region_held_drew (S := (fun w' => Byt w' w3.heap.size (.slice (some ⟨H, 0, none⟩) 4 32) (sum4 L) ∧ Byt w' w1.heap.size (.slice A2 4 (c - m)) T)) (by kernel_rfl) ?_ (fun hHeld => ?_)
        · exact ⟨byt_drewN HF.out 1, byt_drewN TT3.out 1⟩
        refine wpAnyH_take (i := 0) (oi := { dst := some 24, op := Go.Op.slice 41 (Go.Operand.tmp 6) none (some (Go.Operand.const (Go.Value.int Go.IntKind.i64 4))) none, type := 22, pos := "ref.go:125", after := #[], guard := none }) (v := ?av0) rfl (by kernel_rfl) (by kernel_rfl) (by kernel_rfl) (fun _ _ _ h => h) (Or.inl ⟨by rfl, ?ay0⟩) (by assumption) ?ar0
        case ay0 => (intro w hSw; (try dsimp only at hSw); go_simp; try (with_reducible rfl))
        case ar0 =>
        try simp only [Act.put, List.setIfInBounds_toArray, List.set_cons_zero, List.set_cons_succ]
        refine wpAnyH_take (i := 1) (oi := { dst := some 25, op := Go.Op.convert 22 9 (Go.Operand.tmp 24), type := 9, pos := "ref.go:125", after := #[{ on := 0, ground := Go.Ground.data }], guard := none }) (v := (.string S1)) rfl (by kernel_rfl) (by kernel_rfl) (by kernel_rfl) (fun _ _ _ h => h) (Or.inl ⟨by rfl, ?ay1⟩) (by assumption) ?ar1
        case ay1 => (intro w hSw; (try dsimp only at hSw); go_simp; try (rw [run_string_of (P := Tryd.prog) _ 22 9 5 slice_u8 Tryd.underlying5 Tryd.underlying9 _ _ _ hSw.1, HS1.out]; rfl))
        case ar1 =>
        try simp only [Act.put, List.setIfInBounds_toArray, List.set_cons_zero, List.set_cons_succ]
        refine wpAnyH_take (i := 2) (oi := { dst := some 26, op := Go.Op.move (Go.Operand.tmp 4), type := 22, pos := "ref.go:125", after := #[], guard := none }) (v := ?av2) rfl (by kernel_rfl) (by kernel_rfl) (by kernel_rfl) (fun _ _ _ h => h) (Or.inl ⟨by rfl, ?ay2⟩) (by assumption) ?ar2
        case ay2 => (intro w hSw; (try dsimp only at hSw); go_simp; try (with_reducible rfl))
        case ar2 =>
        try simp only [Act.put, List.setIfInBounds_toArray, List.set_cons_zero, List.set_cons_succ]
        refine wpAnyH_take (i := 3) (oi := { dst := some 27, op := Go.Op.move (Go.Operand.tmp 4), type := 22, pos := "ref.go:125", after := #[], guard := none }) (v := ?av3) rfl (by kernel_rfl) (by kernel_rfl) (by kernel_rfl) (fun _ _ _ h => h) (Or.inl ⟨by rfl, ?ay3⟩) (by assumption) ?ar3
        case ay3 => (intro w hSw; (try dsimp only at hSw); go_simp; try (with_reducible rfl))
        case ar3 =>
        try simp only [Act.put, List.setIfInBounds_toArray, List.set_cons_zero, List.set_cons_succ]
        refine wpAnyH_take (i := 4) (oi := { dst := some 28, op := Go.Op.call { callee := Go.Callee.builtin Go.Builtin.len, args := #[Go.Operand.tmp 27], argTypes := #[22] }, type := 3, pos := "ref.go:125", after := #[{ on := 3, ground := Go.Ground.data }], guard := none }) (v := ?av4) rfl (by kernel_rfl) (by kernel_rfl) (by kernel_rfl) (fun _ _ _ h => h) (Or.inl ⟨by rfl, ?ay4⟩) (by assumption) ?ar4
        case ay4 => (intro w hSw; (try dsimp only at hSw); go_simp; try (with_reducible rfl))
        case ar4 =>
        try simp only [Act.put, List.setIfInBounds_toArray, List.set_cons_zero, List.set_cons_succ]
        refine wpAnyH_take (i := 5) (oi := { dst := some 29, op := Go.Op.binOp Go.BinOp.sub 3 (Go.Operand.tmp 28) (Go.Operand.const (Go.Value.int Go.IntKind.i64 4)) 3, type := 3, pos := "ref.go:125", after := #[{ on := 4, ground := Go.Ground.data }], guard := none }) (v := ?av5) rfl (by kernel_rfl) (by kernel_rfl) (by kernel_rfl) (fun _ _ _ h => h) (Or.inl ⟨by rfl, ?ay5⟩) (by assumption) ?ar5
        case ay5 => (intro w hSw; (try dsimp only at hSw); go_simp; try (with_reducible rfl))
        case ar5 =>
        try simp only [Act.put, List.setIfInBounds_toArray, List.set_cons_zero, List.set_cons_succ]
        refine wpAnyH_take (i := 6) (oi := { dst := some 30, op := Go.Op.slice 22 (Go.Operand.tmp 26) (some (Go.Operand.tmp 29)) none none, type := 22, pos := "ref.go:125", after := #[{ on := 2, ground := Go.Ground.data }, { on := 5, ground := Go.Ground.data }], guard := none }) (v := (.slice A2 4 (c - m))) rfl (by kernel_rfl) (by kernel_rfl) (by kernel_rfl) (fun _ _ _ h => h) (Or.inl ⟨by rfl, ?ay6⟩) (by assumption) ?ar6
        case ay6 => (intro w hSw; (try dsimp only at hSw); go_simp; try (with_reducible rfl))
        case ar6 =>
        try simp only [Act.put, List.setIfInBounds_toArray, List.set_cons_zero, List.set_cons_succ]
        refine wpAnyH_take (i := 7) (oi := { dst := some 31, op := Go.Op.convert 22 9 (Go.Operand.tmp 30), type := 9, pos := "ref.go:125", after := #[{ on := 6, ground := Go.Ground.data }], guard := none }) (v := (.string S2)) rfl (by kernel_rfl) (by kernel_rfl) (by kernel_rfl) (fun _ _ _ h => h) (Or.inl ⟨by rfl, ?ay7⟩) (by assumption) ?ar7
        case ay7 => (intro w hSw; (try dsimp only at hSw); go_simp; try (rw [run_string_of (P := Tryd.prog) _ 22 9 5 slice_u8 Tryd.underlying5 Tryd.underlying9 _ _ _ hSw.2, HS2.out]; rfl))
        case ar7 =>
        try simp only [Act.put, List.setIfInBounds_toArray, List.set_cons_zero, List.set_cons_succ]
        refine wpAnyH_take (i := 8) (oi := { dst := some 32, op := Go.Op.binOp Go.BinOp.neq 9 (Go.Operand.tmp 25) (Go.Operand.tmp 31) 9, type := 4, pos := "ref.go:125", after := #[{ on := 1, ground := Go.Ground.data }, { on := 7, ground := Go.Ground.data }], guard := none }) (v := ?av8) rfl (by kernel_rfl) (by kernel_rfl) (by kernel_rfl) (fun _ _ _ h => h) (Or.inl ⟨by rfl, ?ay8⟩) (by assumption) ?ar8
        case ay8 => (intro w hSw; (try dsimp only at hSw); go_simp; try (with_reducible rfl))
        case ar8 =>
        try simp only [Act.put, List.setIfInBounds_toArray, List.set_cons_zero, List.set_cons_succ]
        refine wpAnyH_done (by kernel_rfl) ?_ _
        go_wp2_with fail
        go_ret2
        exact ⟨0, out, .slice A m c, HD.out, by rw [HC2.out]; rfl, by rw [HC2.out]; exact (byt_drewN TL3.out 1).more (by simpa using hsz13), HBB.out⟩
      · have hc := HC.out
        rw [if_neg hq] at hc
        have HC2 := Lib.hid hc
        have hd : (S1.toList == S2.toList) = false := by rw [hbe]; simp [hq]
        clear hc hq hbe
        refine wp_region_held_drew (S := (fun w' => Byt w' w3.heap.size (.slice (some ⟨H, 0, none⟩) 4 32) (sum4 L) ∧ Byt w' w1.heap.size (.slice A2 4 (c - m)) T)) (by kernel_rfl) ?_ (fun hHeld => ?_)
        · exact ⟨byt_drewN HF.out 1, byt_drewN TT3.out 1⟩
        refine wpAnyH_take (i := 0) (oi := { dst := some 24, op := Go.Op.slice 41 (Go.Operand.tmp 6) none (some (Go.Operand.const (Go.Value.int Go.IntKind.i64 4))) none, type := 22, pos := "ref.go:125", after := #[], guard := none }) (v := ?bv0) rfl (by kernel_rfl) (by kernel_rfl) (by kernel_rfl) (fun _ _ _ h => h) (Or.inl ⟨by rfl, ?by0⟩) (by assumption) ?br0
        case by0 => (intro w hSw; (try dsimp only at hSw); go_simp; try (with_reducible rfl))
        case br0 =>
        try simp only [Act.put, List.setIfInBounds_toArray, List.set_cons_zero, List.set_cons_succ]
        refine wpAnyH_take (i := 1) (oi := { dst := some 25, op := Go.Op.convert 22 9 (Go.Operand.tmp 24), type := 9, pos := "ref.go:125", after := #[{ on := 0, ground := Go.Ground.data }], guard := none }) (v := (.string S1)) rfl (by kernel_rfl) (by kernel_rfl) (by kernel_rfl) (fun _ _ _ h => h) (Or.inl ⟨by rfl, ?by1⟩) (by assumption) ?br1
        case by1 => (intro w hSw; (try dsimp only at hSw); go_simp; try (rw [run_string_of (P := Tryd.prog) _ 22 9 5 slice_u8 Tryd.underlying5 Tryd.underlying9 _ _ _ hSw.1, HS1.out]; rfl))
        case br1 =>
        try simp only [Act.put, List.setIfInBounds_toArray, List.set_cons_zero, List.set_cons_succ]
        refine wpAnyH_take (i := 2) (oi := { dst := some 26, op := Go.Op.move (Go.Operand.tmp 4), type := 22, pos := "ref.go:125", after := #[], guard := none }) (v := ?bv2) rfl (by kernel_rfl) (by kernel_rfl) (by kernel_rfl) (fun _ _ _ h => h) (Or.inl ⟨by rfl, ?by2⟩) (by assumption) ?br2
        case by2 => (intro w hSw; (try dsimp only at hSw); go_simp; try (with_reducible rfl))
        case br2 =>
        try simp only [Act.put, List.setIfInBounds_toArray, List.set_cons_zero, List.set_cons_succ]
        refine wpAnyH_take (i := 3) (oi := { dst := some 27, op := Go.Op.move (Go.Operand.tmp 4), type := 22, pos := "ref.go:125", after := #[], guard := none }) (v := ?bv3) rfl (by kernel_rfl) (by kernel_rfl) (by kernel_rfl) (fun _ _ _ h => h) (Or.inl ⟨by rfl, ?by3⟩) (by assumption) ?br3
        case by3 => (intro w hSw; (try dsimp only at hSw); go_simp; try (with_reducible rfl))
        case br3 =>
        try simp only [Act.put, List.setIfInBounds_toArray, List.set_cons_zero, List.set_cons_succ]
        refine wpAnyH_take (i := 4) (oi := { dst := some 28, op := Go.Op.call { callee := Go.Callee.builtin Go.Builtin.len, args := #[Go.Operand.tmp 27], argTypes := #[22] }, type := 3, pos := "ref.go:125", after := #[{ on := 3, ground := Go.Ground.data }], guard := none }) (v := ?bv4) rfl (by kernel_rfl) (by kernel_rfl) (by kernel_rfl) (fun _ _ _ h => h) (Or.inl ⟨by rfl, ?by4⟩) (by assumption) ?br4
        case by4 => (intro w hSw; (try dsimp only at hSw); go_simp; try (with_reducible rfl))
        case br4 =>
        try simp only [Act.put, List.setIfInBounds_toArray, List.set_cons_zero, List.set_cons_succ]
        refine wpAnyH_take (i := 5) (oi := { dst := some 29, op := Go.Op.binOp Go.BinOp.sub 3 (Go.Operand.tmp 28) (Go.Operand.const (Go.Value.int Go.IntKind.i64 4)) 3, type := 3, pos := "ref.go:125", after := #[{ on := 4, ground := Go.Ground.data }], guard := none }) (v := ?bv5) rfl (by kernel_rfl) (by kernel_rfl) (by kernel_rfl) (fun _ _ _ h => h) (Or.inl ⟨by rfl, ?by5⟩) (by assumption) ?br5
        case by5 => (intro w hSw; (try dsimp only at hSw); go_simp; try (with_reducible rfl))
        case br5 =>
        try simp only [Act.put, List.setIfInBounds_toArray, List.set_cons_zero, List.set_cons_succ]
        refine wpAnyH_take (i := 6) (oi := { dst := some 30, op := Go.Op.slice 22 (Go.Operand.tmp 26) (some (Go.Operand.tmp 29)) none none, type := 22, pos := "ref.go:125", after := #[{ on := 2, ground := Go.Ground.data }, { on := 5, ground := Go.Ground.data }], guard := none }) (v := (.slice A2 4 (c - m))) rfl (by kernel_rfl) (by kernel_rfl) (by kernel_rfl) (fun _ _ _ h => h) (Or.inl ⟨by rfl, ?by6⟩) (by assumption) ?br6
        case by6 => (intro w hSw; (try dsimp only at hSw); go_simp; try (with_reducible rfl))
        case br6 =>
        try simp only [Act.put, List.setIfInBounds_toArray, List.set_cons_zero, List.set_cons_succ]
        refine wpAnyH_take (i := 7) (oi := { dst := some 31, op := Go.Op.convert 22 9 (Go.Operand.tmp 30), type := 9, pos := "ref.go:125", after := #[{ on := 6, ground := Go.Ground.data }], guard := none }) (v := (.string S2)) rfl (by kernel_rfl) (by kernel_rfl) (by kernel_rfl) (fun _ _ _ h => h) (Or.inl ⟨by rfl, ?by7⟩) (by assumption) ?br7
        case by7 => (intro w hSw; (try dsimp only at hSw); go_simp; try (rw [run_string_of (P := Tryd.prog) _ 22 9 5 slice_u8 Tryd.underlying5 Tryd.underlying9 _ _ _ hSw.2, HS2.out]; rfl))
        case br7 =>
        try simp only [Act.put, List.setIfInBounds_toArray, List.set_cons_zero, List.set_cons_succ]
        refine wpAnyH_take (i := 8) (oi := { dst := some 32, op := Go.Op.binOp Go.BinOp.neq 9 (Go.Operand.tmp 25) (Go.Operand.tmp 31) 9, type := 4, pos := "ref.go:125", after := #[{ on := 1, ground := Go.Ground.data }, { on := 7, ground := Go.Ground.data }], guard := none }) (v := ?bv8) rfl (by kernel_rfl) (by kernel_rfl) (by kernel_rfl) (fun _ _ _ h => h) (Or.inl ⟨by rfl, ?by8⟩) (by assumption) ?br8
        case by8 => (intro w hSw; (try dsimp only at hSw); go_simp; try (with_reducible rfl))
        case br8 =>
        try simp only [Act.put, List.setIfInBounds_toArray, List.set_cons_zero, List.set_cons_succ]
        refine wpAnyH_done (by kernel_rfl) ?_ _
        go_wp2_with fail
        go_ret2
        exact ⟨0, out, .slice none 0 0, HD.out, by rw [HC2.out]; rfl, by rw [HC2.out]; exact Byt.nil _ _, HBB.out⟩
  · have hc : chkF k out = (k, []) := by unfold chkF; rw [if_pos hk]
    have HC := Lib.hid hc
    have d4 : (k != (0 : Int)) = true := by simp only [bne_iff_ne, ne_eq]; exact hk
    rw [← hn]
    clear hd hb hown hby hn hc hcap hk
    go_wp2_with fail
    go_ret2
    exact ⟨k, out, .slice none 0 0, HD.out, by rw [HC.out]; rfl, by rw [HC.out]; exact Byt.nil _ _, HB.out⟩
end Go.Proofs.YtehodjbjioepnaaDoor

/-
  Pure: letters and places, and how long. Conditions: none.
-/
namespace Go.Proofs.YtehodjbjioepnaaDoor
open Go.RowKit

theorem letter_pos_fin : ∀ d : Fin 58, posB b58D (b58D.data.toList.getD d.val 0) = (d.val : Int) := by decide +kernel
theorem letter_pos {n : Nat} (h : n < 58) : posB b58D (b58D.data.toList.getD n 0) = (n : Int) := letter_pos_fin ⟨n, h⟩
theorem places_letters {out : List UInt8} (h : ∀ d ∈ out, d.toNat < 58) : placesB b58D (letters b58D out) = out ∧ ∀ c ∈ letters b58D out, 0 ≤ posB b58D c := by
  induction out with
  | nil => exact ⟨rfl, fun c h => by cases h⟩
  | cons d r ih =>
    obtain ⟨h1, h2⟩ := ih (fun e he => h e (List.mem_cons_of_mem _ he))
    have hp := letter_pos (h d (List.mem_cons_self ..))
    have e1 : letters b58D (d :: r) = b58D.data.toList.getD d.toNat 0 :: letters b58D r := rfl
    have e2 : placesB b58D (b58D.data.toList.getD d.toNat 0 :: letters b58D r) = b8 (posB b58D (b58D.data.toList.getD d.toNat 0)) :: placesB b58D (letters b58D r) := rfl
    rw [e1]
    refine ⟨?_, ?_⟩
    · rw [e2, hp, h1]
      congr 1
      apply UInt8.toNat_inj.1
      have := b8_toNat ((d.toNat : Nat) : Int)
      have := d.toNat_lt
      omega
    · intro c hc
      rcases List.mem_cons.1 hc with rfl | hc
      · rw [hp]; omega
      · exact h2 c hc
theorem letters_places {cs : List UInt8} (h : ∀ c ∈ cs, 0 ≤ posB b58D c) : letters b58D (placesB b58D cs) = cs := by
  induction cs with
  | nil => rfl
  | cons c r ih =>
    have h2 := ih (fun e he => h e (List.mem_cons_of_mem _ he))
    have h0 := h c (List.mem_cons_self ..)
    have hr := posB_range8 b58D c
    have h58' : (b58D.size : Int) = 58 := rfl
    have hb := b8_toNat (posB b58D c)
    have hp := letter_pos (n := (b8 (posB b58D c)).toNat) (by omega)
    have e1 : letters b58D (placesB b58D (c :: r)) = b58D.data.toList.getD (b8 (posB b58D c)).toNat 0 :: letters b58D (placesB b58D r) := rfl
    rw [e1, h2]
    congr 1
    exact posB_inj8 (by rw [hp]; omega) (by rw [hp]; omega)
theorem reb_short {ds out : List UInt8} (h : RebOf 58 256 ds out) (hl : ds.length ≤ 124) : out.length ≤ 250 := by
  obtain ⟨asc, ⟨k, rfl, _, hj⟩, rfl⟩ := h
  have hz := zerosN_le ds
  have hv := valF_pow (b := 256) (ds.drop (zerosN ds)) (fun d _ => d.toNat_lt)
  rw [List.length_drop] at hv
  rw [List.length_append, List.length_replicate, List.length_reverse, digitsL_length]
  rcases Nat.eq_zero_or_pos k with rfl | hk
  · omega
  · have h1 := hj (k - 1) (by omega)
    have h2 : 58 ^ (k - 1) ≤ valF 256 (ds.drop (zerosN ds)) := by
      rcases Nat.lt_or_ge (valF 256 (ds.drop (zerosN ds))) (58 ^ (k - 1)) with h | h
      · exact absurd (Nat.div_eq_of_lt h) h1
      · exact h
    have h3 : 2 ^ (5 * (k - 1)) ≤ 58 ^ (k - 1) := by
      rw [Nat.pow_mul]
      exact Nat.pow_le_pow_left (by decide) _
    have h4 : (256 : Nat) ^ (ds.length - zerosN ds) = 2 ^ (8 * (ds.length - zerosN ds)) := by rw [Nat.pow_mul]
    have h5 : 2 ^ (5 * (k - 1)) < 2 ^ (8 * (ds.length - zerosN ds)) := by omega
    have h6 := (Nat.pow_lt_pow_iff_right (by decide : 1 < 2)).1 h5
    omega
theorem dec_of_reb {ds out : List UInt8} (h : RebOf 58 256 ds out) (hl : ds.length ≤ 124) : Dec (letters b58D out) 0 ds := by
  obtain ⟨h1, h2⟩ := places_letters (reb_small h (by decide) (by decide))
  refine .inr (.inr ⟨by rw [letters_length]; exact reb_short h hl, h2, rfl, ?_⟩)
  rw [h1]
  exact reb_back h (by decide) (by decide) (by decide) (by decide) (fun d _ => d.toNat_lt)
theorem chk_back (b : List UInt8) : chkF 0 (b ++ sum4 b) = (0, b) := by
  have h := sum4_length b
  have e : (b ++ sum4 b).length - 4 = b.length := by rw [List.length_append, h]; omega
  unfold chkF
  rw [if_neg (by simp), if_neg (by rw [List.length_append]; omega), e, List.take_left, List.drop_left, if_pos rfl]
/-- What stands spelled so is what is spelled so. -/
theorem dec_again {cs u out : List UInt8} (h : Dec cs 0 u) (h2 : RebOf 58 256 u out) : letters b58D out = cs := by
  rcases h with ⟨_, h, _⟩ | ⟨_, _, h, _⟩ | ⟨h1, ha, _, h3⟩
  · exact absurd h (by decide)
  · exact absurd h (by decide)
  · have hs : ∀ d ∈ placesB b58D cs, d.toNat < 58 := fun d hd => by
      unfold placesB at hd
      obtain ⟨c1, hc1, rfl⟩ := List.mem_map.1 hd
      have a2 := posB_range8 b58D c1
      have a3 := ha c1 hc1
      have a4 := b8_toNat (posB b58D c1)
      have h58' : (b58D.size : Int) = 58 := rfl
      omega
    have hb := reb_back h3 (by decide) (by decide) (by decide) (by decide) hs
    rw [h2.unique hb]
    exact letters_places ha
end Go.Proofs.YtehodjbjioepnaaDoor

/-
  The references' Spare and Kept: a copy with tinted room behind it, and whether it is still as it was. Conditions: sizes within the reach.
-/
namespace Go.Proofs.YtehodjbjioepnaaDoor
open Go.RowKit

/-- The bytes, and nine tinted ones behind them. -/
def tinted (bs : List UInt8) : List UInt8 := bs ++ (List.range 9).map fun k => b8 (201 + (bs.length + k : Nat))
theorem tinted_length (bs : List UInt8) : (tinted bs).length = bs.length + 9 := by simp [tinted]
theorem tinted_low {bs : List UInt8} {i : Nat} (h : i < bs.length) : (tinted bs)[i]? = bs[i]? := by
  unfold tinted
  rw [List.getElem?_append_left h]
theorem tinted_high {bs : List UInt8} {i : Nat} (h : bs.length ≤ i) (h2 : i < bs.length + 9) : (tinted bs)[i]? = some (b8 (201 + (i : Int))) := by
  unfold tinted
  rw [List.getElem?_append_right h, List.getElem?_map, List.getElem?_range (by omega)]
  simp
  congr 1
  omega

/-- Behind i rounds: the first i bytes are as they will be, the rest is zero. -/
def Fill (w : World) (g i : Nat) (bs : List UInt8) (wr : World) : Prop :=
  ∃ zs, zs = (tinted bs).take i ++ List.replicate (bs.length + 9 - i) 0 ∧ Row wr g zs ∧ Below w.heap.size w wr

theorem fill_next {w wr w' : World} {g i : Nat} {bs zs : List UInt8} {c : UInt8} (hi : i < bs.length + 9) (hc : (tinted bs)[i]? = some c) (hz : zs = (tinted bs).take i ++ List.replicate (bs.length + 9 - i) 0)
    (hr : Row w' g (zs.set i c)) (_hb : Below w.heap.size w wr) (hb' : Below w.heap.size w w') : Fill w g (i + 1) bs w' :=
  ⟨_, set_next (by rw [tinted_length]; exact hi) hc hz (by rw [tinted_length]), hr, hb'⟩

theorem fill_zero {bs zs : List UInt8} {i : Nat} (hi : i < bs.length + 9) (hz : zs = (tinted bs).take i ++ List.replicate (bs.length + 9 - i) 0) : zs[i]? = some 0 := by
  subst hz
  have hl : ((tinted bs).take i).length = i := by rw [List.length_take, tinted_length]; omega
  rw [List.getElem?_append_right (by omega), hl, Nat.sub_self]
  obtain ⟨m, hm⟩ : ∃ m, bs.length + 9 - i = m + 1 := ⟨bs.length + 9 - i - 1, by omega⟩
  rw [hm, List.replicate_succ]
  rfl

set_option maxRecDepth 100000 in
set_option maxHeartbeats 1600000 in
theorem spare_any (B : Nat) (x : Value) (bs : List UInt8) (w : World) (hx : Byt w B x bs) (hB : B ≤ w.heap.size) (hl : bs.length ≤ 60000) :
    Calls Tryd.prog 6 #[x] w fun e w' => e = .returned (.tuple #[.slice (some ⟨w.heap.size, 0, none⟩) bs.length (bs.length + 9), .slice (some ⟨w.heap.size, 0, none⟩) (bs.length + 9) (bs.length + 9)]) ∧
      Row w' w.heap.size (tinted bs) ∧ Below w.heap.size w w' := by
  obtain ⟨A, c, hxf⟩ := hx.form
  subst hxf
  have hcap := hx.cap
  have hmk := fun W => make_bytes W (bs.length + 9) ((bs.length : Int) + 9) (by omega) (by omega)
  have hX := Lib.hid hx
  clear hx
  go_enter Tryd.func6, Tryd.ntmps6
  go_wp2_with fail
  clear hmk
  go_loopw [5] (fun s wr => ∃ i : Nat, i ≤ bs.length + 9 ∧ s = .int .i64 i ∧ Fill w w.heap.size i bs wr) (fun s _ => bs.length + 9 - (intOf s).toNat)
  case atStart => exact ⟨0, Nat.zero_le _, rfl, _, rfl, row_new w _, (Below.refl _ _).alloc (Nat.le_refl _) _⟩
  case round =>
    obtain ⟨i, hi, rfl, zs, hz, hrow, hbel⟩ := hrel
    by_cases hlt : i < bs.length + 9
    · have hcell : wr.cell? ⟨w.heap.size, i, none⟩ = some (.int .u8 0) := hrow.cell (fill_zero hlt hz)
      have hfree := hrow.free i
      by_cases hlow : i < bs.length
      · obtain ⟨A', c', e0, _, _, _, h4⟩ := hX.out
        injection e0 with e1 e2 e3
        subst e1 e3
        obtain ⟨b, o, rfl, hb, hbc⟩ := h4 (by rintro rfl; simp at hlow)
        have hci := hbc i _ (List.getElem?_eq_getElem hlow)
        obtain ⟨q, hq⟩ : ∃ q, q = bs[i] := ⟨_, rfl⟩
        rw [← hq] at hci
        have hbi : ∀ u, (wr.setCell ⟨w.heap.size, i, none⟩ u).cell? ⟨b, o + i, none⟩ = some (.int .u8 (q.toNat : Int)) := fun u =>
          (World.cell?_setCell_other _ _ _ _ (by intro e; injection e with e; omega)).trans ((hbel.cell (p := ⟨b, _, none⟩) (by show b < _; omega)).trans hci)
        have HQ := Lib.hid hq
        have HZ := Lib.hid hz
        have HR := Lib.hid hrow
        clear hq hz hrow hci hbc h4
        go_wp2
        refine ⟨⟨i + 1, by omega, by go_num, ?_⟩, ?_⟩
        · refine fill_next hlt (c := q) ?_ HZ.out ?_ hbel ((hbel.setCell (Nat.le_refl _) _).setCell (Nat.le_refl _) _)
          · rw [tinted_low hlow, HQ.out]; exact List.getElem?_eq_getElem hlow
          · have h1 := (HR.out.set (i := i) (b8 (201 + (i : Int)))).set (i := i) q
            rw [List.set_set, bv_b8] at h1
            exact h1
        · simp [intOf]; omega
      · have HZ := Lib.hid hz
        have HR := Lib.hid hrow
        clear hz hrow
        go_wp2
        refine ⟨⟨i + 1, by omega, by go_num, ?_⟩, ?_⟩
        · refine fill_next hlt (c := b8 (201 + (i : Int))) (tinted_high (by omega) hlt) HZ.out ?_ hbel (hbel.setCell (Nat.le_refl _) _)
          have h1 := HR.out.set (i := i) (b8 (201 + (i : Int)))
          rw [bv_b8] at h1
          exact h1
        · simp [intOf]; omega
    · go_wp2
      go_ret2
      have hie : i = bs.length + 9 := by omega
      subst hie
      rw [Nat.sub_self, List.replicate_zero, List.append_nil, List.take_of_length_le (Nat.le_of_eq (tinted_length bs))] at hz
      subst hz
      exact ⟨rfl, hrow, hbel⟩

end Go.Proofs.YtehodjbjioepnaaDoor
