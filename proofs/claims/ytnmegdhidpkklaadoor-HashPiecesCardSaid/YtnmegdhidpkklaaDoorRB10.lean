/-
  The reference's Sum256: what a block adds to the words; and the words as bytes. Conditions: none.
-/
import Derived.Test.YtnmegdhidpkklaaDoorRB2
namespace Go.Proofs.YtnmegdhidpkklaaDoor
open Go.RowKit

set_option maxRecDepth 1000000 in
set_option maxHeartbeats 6400000 in
theorem rb10_any {Q : Exit → Act → World → Prop} (BH V : Nat) (s v : S8) (w7 : World) (hne : V ≠ BH) (rH : IRow w7 BH 40 .u32 s.list) (rV : IRow w7 V 40 .u32 v.list) (u0 u1 u2 u3 u5 u6 u7 u8 u9 u10 u11 u12 u14 u15 u16 u18 u19 u20 u21 u22 u23 u24 u25 u26 u27 u28 u29 u30 u31 u32 u33 u34 u35 u36 u37 u38 u39 u40 u41 u42 u43 u44 u45 u46 u47 u48 u49 u50 u51 u52 u53 u54 u55 u56 u57 u58 u59 u60 u61 u62 u63 u64 u65 u66 u67 u68 u69 u70 u71 u72 u73 u74 u75 u76 u77 u78 u79 u80 u81 u82 u83 u84 u85 u86 u87 u88 u89 u90 u91 u92 u93 u94 u95 u96 u97 u98 u99 u100 u101 u102 u103 u104 u105 u106 u107 u108 u109 u110 u111 u112 u113 u114 u115 u116 u117 u118 u119 u120 u121 u122 u123 u124 u125 u126 u127 u128 u129 u130 u131 u132 u133 u134 u135 u136 u137 u138 u139 u140 u141 u142 u143 u144 u145 u146 u147 u148 u149 u150 u151 u152 u153 u154 u155 u156 u157 u158 u159 u160 u161 u162 u163 u164 u165 u166 u167 u168 u169 u170 u171 u172 u173 u174 u175 u176 u177 u178 u179 u180 u181 u182 u183 u184 u185 u186 u187 u188 u189 u190 u191 u192 u193 u194 u195 u196 u197 u198 u199 u200 u201 u202 u203 u204 u205 u206 u207 u208 u209 u210 u211 u212 u213 u214 u215 u216 u217 u218 u219 u220 u221 u222 u223 u224 u225 u226 u227 : Value)
    (hPan : ∀ (c : List PanicEntry) (a : Act) (d : Tmp) (v : Value) (w : World), Q (.panic c) (a.put (some d) v) w → Q (.panic c) a w)
    (hQ : ∀ (v17 v197 v198 v199 v200 v201 v202 v203 v204 v205 v206 v207 v208 v209 : Value) (w' : World), IRow w' BH 40 .u32 (mix s.list v.list 8) → Turns (· = BH) w7 w' → Q .normal ⟨#[u0, u1, u2, u3, .pointer (some ⟨BH, 0, none⟩), u5, u6, u7, u8, u9, u10, u11, u12, .pointer (some ⟨V, 0, none⟩), u14, u15, u16, v17, u18, u19, u20, u21, u22, u23, u24, u25, u26, u27, u28, u29, u30, u31, u32, u33, u34, u35, u36, u37, u38, u39, u40, u41, u42, u43, u44, u45, u46, u47, u48, u49, u50, u51, u52, u53, u54, u55, u56, u57, u58, u59, u60, u61, u62, u63, u64, u65, u66, u67, u68, u69, u70, u71, u72, u73, u74, u75, u76, u77, u78, u79, u80, u81, u82, u83, u84, u85, u86, u87, u88, u89, u90, u91, u92, u93, u94, u95, u96, u97, u98, u99, u100, u101, u102, u103, u104, u105, u106, u107, u108, u109, u110, u111, u112, u113, u114, u115, u116, u117, u118, u119, u120, u121, u122, u123, u124, u125, u126, u127, u128, u129, u130, u131, u132, u133, u134, u135, u136, u137, u138, u139, u140, u141, u142, u143, u144, u145, u146, u147, u148, u149, u150, u151, u152, u153, u154, u155, u156, u157, u158, u159, u160, u161, u162, u163, u164, u165, u166, u167, u168, u169, u170, u171, u172, u173, u174, u175, u176, u177, u178, u179, u180, u181, u182, u183, u184, u185, u186, u187, u188, u189, u190, u191, u192, u193, u194, u195, u196, v197, v198, v199, v200, v201, v202, v203, v204, v205, v206, v207, v208, v209, u210, u211, u212, u213, u214, u215, u216, u217, u218, u219, u220, u221, u222, u223, u224, u225, u226, u227], []⟩ w') :
    Code.wp Tryd.prog (blkOf 10 Tryd.f12) Q ⟨#[u0, u1, u2, u3, .pointer (some ⟨BH, 0, none⟩), u5, u6, u7, u8, u9, u10, u11, u12, .pointer (some ⟨V, 0, none⟩), u14, u15, u16, .int .i64 0, u18, u19, u20, u21, u22, u23, u24, u25, u26, u27, u28, u29, u30, u31, u32, u33, u34, u35, u36, u37, u38, u39, u40, u41, u42, u43, u44, u45, u46, u47, u48, u49, u50, u51, u52, u53, u54, u55, u56, u57, u58, u59, u60, u61, u62, u63, u64, u65, u66, u67, u68, u69, u70, u71, u72, u73, u74, u75, u76, u77, u78, u79, u80, u81, u82, u83, u84, u85, u86, u87, u88, u89, u90, u91, u92, u93, u94, u95, u96, u97, u98, u99, u100, u101, u102, u103, u104, u105, u106, u107, u108, u109, u110, u111, u112, u113, u114, u115, u116, u117, u118, u119, u120, u121, u122, u123, u124, u125, u126, u127, u128, u129, u130, u131, u132, u133, u134, u135, u136, u137, u138, u139, u140, u141, u142, u143, u144, u145, u146, u147, u148, u149, u150, u151, u152, u153, u154, u155, u156, u157, u158, u159, u160, u161, u162, u163, u164, u165, u166, u167, u168, u169, u170, u171, u172, u173, u174, u175, u176, u177, u178, u179, u180, u181, u182, u183, u184, u185, u186, u187, u188, u189, u190, u191, u192, u193, u194, u195, u196, u197, u198, u199, u200, u201, u202, u203, u204, u205, u206, u207, u208, u209, u210, u211, u212, u213, u214, u215, u216, u217, u218, u219, u220, u221, u222, u223, u224, u225, u226, u227], []⟩ w7 := by
  conv => arg 2; whnf
  have HQ := Lib.hid hQ
  have RH := Lib.hid rH
  have RV := Lib.hid rV
  clear hQ rH rV
  go_wp2_with fail
  go_loopw [17] (fun v17 wr => ∃ i : Nat, i ≤ 8 ∧ v17 = .int .i64 (i : Int) ∧ IRow wr BH 40 .u32 (mix s.list v.list i) ∧ Turns (· = BH) w7 wr) (fun v17 _ => 8 - (intOf v17).toNat)
  case atStart => exact ⟨0, by omega, rfl, RH.out, Turns.refl _ _⟩
  case round =>
    obtain ⟨i, hi, rfl, hrow, htt⟩ := hrel
    by_cases h8 : i < 8
    · obtain ⟨l, hl⟩ : ∃ l, l = s.list.getD i 0 := ⟨_, rfl⟩
      obtain ⟨z, hz⟩ : ∃ z, v.list[i]? = some z := ⟨_, List.getElem?_eq_getElem (by have : v.list.length = 8 := rfl; omega)⟩
      have hat := hrow.cell (mix_at s.list v.list h8)
      rw [← hl] at hat
      have hcv : wr.cell? ⟨V, i, none⟩ = some (.int .u32 z) := (RV.out.turns htt hne).cell hz
      have hset := hrow.set i (add32 (s.list.getD i 0) (v.list.getD i 0))
      have hzd : v.list.getD i 0 = z := by rw [List.getD_eq_getElem?_getD, hz]; rfl
      rw [mix_next _ _ h8, hzd, ← hl] at hset
      have hfr := hrow.free i
      have b8 : (i : Int) < 8 := by omega
      have HSET := Lib.hid (show IRow (wr.setCell ⟨BH, i, none⟩ (.int .u32 (IntKind.u32.wrap (l + z)))) BH 40 .u32 (mix s.list v.list (i + 1)) by rw [u32_wrap]; exact hset)
      have HTT := Lib.hid htt
      clear hl hz hzd hset hrow htt
      go_wp2_with fail
      refine wp_region_held_drew (S := (fun w' => w'.cell? ⟨V, i, none⟩ = some (.int .u32 z))) (by kernel_rfl) ?_ (fun hHeld => ?_)
      · exact hcv
      refine wpAnyH_take (i := 0) (oi := { dst := some 201, op := Go.Op.move (Go.Operand.tmp 17), type := 3, pos := "ref.go:57", after := #[], guard := none }) (v := ?av0) rfl (by kernel_rfl) (by kernel_rfl) (by kernel_rfl) (fun _ _ _ h => hPan _ _ _ _ _ h) (Or.inl ⟨by rfl, ?ay0⟩) (by assumption) ?ar0
      case ay0 => (intro w hSw; (try dsimp only at hSw); go_simp; try (with_reducible rfl))
      case ar0 =>
      try simp only [Act.put, List.setIfInBounds_toArray, List.set_cons_zero, List.set_cons_succ]
      refine wpAnyH_take (i := 1) (oi := { dst := some 202, op := Go.Op.move (Go.Operand.tmp 17), type := 3, pos := "ref.go:57", after := #[], guard := none }) (v := ?av1) rfl (by kernel_rfl) (by kernel_rfl) (by kernel_rfl) (fun _ _ _ h => hPan _ _ _ _ _ h) (Or.inl ⟨by rfl, ?ay1⟩) (by assumption) ?ar1
      case ay1 => (intro w hSw; (try dsimp only at hSw); go_simp; try (with_reducible rfl))
      case ar1 =>
      try simp only [Act.put, List.setIfInBounds_toArray, List.set_cons_zero, List.set_cons_succ]
      refine wpAnyH_take (i := 2) (oi := { dst := some 203, op := Go.Op.indexAddr 40 (Go.Operand.tmp 4) (Go.Operand.tmp 202), type := 0, pos := "ref.go:57", after := #[{ on := 1, ground := Go.Ground.data }], guard := none }) (v := ?av2) rfl (by kernel_rfl) (by kernel_rfl) (by kernel_rfl) (fun _ _ _ h => hPan _ _ _ _ _ h) (Or.inl ⟨by rfl, ?ay2⟩) (by assumption) ?ar2
      case ay2 => (intro w hSw; (try dsimp only at hSw); go_simp; try (with_reducible rfl))
      case ar2 =>
      try simp only [Act.put, List.setIfInBounds_toArray, List.set_cons_zero, List.set_cons_succ]
      refine wpAnyH_take (i := 4) (oi := { dst := some 205, op := Go.Op.move (Go.Operand.tmp 17), type := 3, pos := "ref.go:57", after := #[], guard := none }) (v := ?av4) rfl (by kernel_rfl) (by kernel_rfl) (by kernel_rfl) (fun _ _ _ h => hPan _ _ _ _ _ h) (Or.inl ⟨by rfl, ?ay4⟩) (by assumption) ?ar4
      case ay4 => (intro w hSw; (try dsimp only at hSw); go_simp; try (with_reducible rfl))
      case ar4 =>
      try simp only [Act.put, List.setIfInBounds_toArray, List.set_cons_zero, List.set_cons_succ]
      refine wpAnyH_take (i := 5) (oi := { dst := some 206, op := Go.Op.indexAddr 40 (Go.Operand.tmp 13) (Go.Operand.tmp 205), type := 0, pos := "ref.go:57", after := #[{ on := 4, ground := Go.Ground.data }], guard := none }) (v := ?av5) rfl (by kernel_rfl) (by kernel_rfl) (by kernel_rfl) (fun _ _ _ h => hPan _ _ _ _ _ h) (Or.inl ⟨by rfl, ?ay5⟩) (by assumption) ?ar5
      case ay5 => (intro w hSw; (try dsimp only at hSw); go_simp; try (with_reducible rfl))
      case ar5 =>
      try simp only [Act.put, List.setIfInBounds_toArray, List.set_cons_zero, List.set_cons_succ]
      refine wpAnyH_take (i := 6) (oi := { dst := some 207, op := Go.Op.load 39 (Go.Operand.tmp 206), type := 39, pos := "ref.go:57", after := #[{ on := 5, ground := Go.Ground.data }], guard := none }) (v := ?av6) rfl (by kernel_rfl) (by kernel_rfl) (by kernel_rfl) (fun _ _ _ h => hPan _ _ _ _ _ h) (Or.inl ⟨by rfl, ?ay6⟩) (by assumption) ?ar6
      case ay6 => (intro w hSw; (try dsimp only at hSw); go_simp; try (with_reducible rfl))
      case ar6 =>
      try simp only [Act.put, List.setIfInBounds_toArray, List.set_cons_zero, List.set_cons_succ]
      refine wpAnyH_ready (rs := [3]) (by kernel_rfl) (by simp) ?_
      refine AllReadyH.cons (o := { dst := some 204, op := Go.Op.load 39 (Go.Operand.tmp 203), type := 39, pos := "ref.go:57", after := #[{ on := 2, ground := Go.Ground.data }], guard := none }) rfl (fun K hK => ?_) (AllReadyH.nil)
      go_simp
      refine hK.out _ _ ?_ (fun hHeld => ?_)
      · exact hHeld
      clear hK K
      try simp only [Act.put, List.setIfInBounds_toArray, List.set_cons_zero, List.set_cons_succ]
      refine wpAnyH_take (i := 7) (oi := { dst := some 208, op := Go.Op.binOp Go.BinOp.add 39 (Go.Operand.tmp 204) (Go.Operand.tmp 207) 39, type := 39, pos := "ref.go:57", after := #[{ on := 3, ground := Go.Ground.data }, { on := 6, ground := Go.Ground.data }], guard := none }) (v := ?a_3v7) rfl (by kernel_rfl) (by kernel_rfl) (by kernel_rfl) (fun _ _ _ h => hPan _ _ _ _ _ h) (Or.inl ⟨by rfl, ?a_3y7⟩) (by assumption) ?a_3r7
      case a_3y7 => (intro w hSw; (try dsimp only at hSw); go_simp; try (with_reducible rfl))
      case a_3r7 =>
      try simp only [Act.put, List.setIfInBounds_toArray, List.set_cons_zero, List.set_cons_succ]
      refine wpAnyH_take (i := 8) (oi := { dst := some 209, op := Go.Op.indexAddr 40 (Go.Operand.tmp 4) (Go.Operand.tmp 201), type := 0, pos := "ref.go:57", after := #[{ on := 0, ground := Go.Ground.data }, { on := 0, ground := Go.Ground.phase }, { on := 1, ground := Go.Ground.phase }, { on := 2, ground := Go.Ground.phase }, { on := 3, ground := Go.Ground.phase }, { on := 4, ground := Go.Ground.phase }, { on := 5, ground := Go.Ground.phase }, { on := 6, ground := Go.Ground.phase }, { on := 7, ground := Go.Ground.phase }], guard := none }) (v := ?a_3v8) rfl (by kernel_rfl) (by kernel_rfl) (by kernel_rfl) (fun _ _ _ h => hPan _ _ _ _ _ h) (Or.inl ⟨by rfl, ?a_3y8⟩) (by assumption) ?a_3r8
      case a_3y8 => (intro w hSw; (try dsimp only at hSw); go_simp; try (with_reducible rfl))
      case a_3r8 =>
      try simp only [Act.put, List.setIfInBounds_toArray, List.set_cons_zero, List.set_cons_succ]
      refine wpAnyH_ready (rs := [9]) (by kernel_rfl) (by simp) ?_
      refine AllReadyH.cons (o := { dst := none, op := Go.Op.store 39 (Go.Operand.tmp 209) (Go.Operand.tmp 208), type := 0, pos := "ref.go:57", after := #[{ on := 8, ground := Go.Ground.data }, { on := 7, ground := Go.Ground.data }, { on := 0, ground := Go.Ground.phase }, { on := 1, ground := Go.Ground.phase }, { on := 2, ground := Go.Ground.phase }, { on := 3, ground := Go.Ground.phase }, { on := 4, ground := Go.Ground.phase }, { on := 5, ground := Go.Ground.phase }, { on := 6, ground := Go.Ground.phase }, { on := 7, ground := Go.Ground.phase }], guard := none }) rfl (fun K hK => ?_) (AllReadyH.nil)
      go_simp
      refine hK.out _ _ ?_ (fun hHeld => ?_)
      · exact (World.cell?_setCell_far wr.drew _ _ _ (by show BH ≠ V; omega)).trans hcv
      clear hK K
      try simp only [Act.put, List.setIfInBounds_toArray, List.set_cons_zero, List.set_cons_succ]
      refine wpAnyH_done (by kernel_rfl) ?_ _
      go_wp2_with fail
      have HT2 := HTT.out.setCell (p := ⟨BH, i, none⟩) (fun _ => rfl) (.int .u32 (IntKind.u32.wrap (l + z)))
      exact ⟨⟨i + 1, by omega, by go_num, HSET.out, ⟨HT2.os, HT2.tape, HT2.output, HT2.size, HT2.block⟩⟩, by simp [intOf]; omega⟩
    · obtain rfl : i = 8 := by omega
      have e8 : ((8 : Nat) : Int) = 8 := rfl
      rw [e8]
      have HR := Lib.hid hrow
      have HTT := Lib.hid htt
      clear e8 hrow htt h8
      go_wp2_with fail
      exact HQ.out _ _ _ _ _ _ _ _ _ _ _ _ _ _ _ HR.out HTT.out

set_option maxRecDepth 1000000 in
set_option maxHeartbeats 6400000 in
theorem rb12_any {Q : Exit → Act → World → Prop} (BH G : Nat) (s : S8) (w8 : World) (hok : s.Ok) (hHG : BH < G) (rH : IRow w8 BH 40 .u32 s.list) (rG : IRow w8 G 27 .u8 (List.replicate 32 0)) (u0 u1 u2 u3 u5 u6 u7 u8 u9 u10 u11 u12 u13 u14 u15 u16 u17 u20 u21 u22 u23 u24 u25 u26 u27 u28 u29 u30 u31 u32 u33 u34 u35 u36 u37 u38 u39 u40 u41 u42 u43 u44 u45 u46 u47 u48 u49 u50 u51 u52 u53 u54 u55 u56 u57 u58 u59 u60 u61 u62 u63 u64 u65 u66 u67 u68 u69 u70 u71 u72 u73 u74 u75 u76 u77 u78 u79 u80 u81 u82 u83 u84 u85 u86 u87 u88 u89 u90 u91 u92 u93 u94 u95 u96 u97 u98 u99 u100 u101 u102 u103 u104 u105 u106 u107 u108 u109 u110 u111 u112 u113 u114 u115 u116 u117 u118 u119 u120 u121 u122 u123 u124 u125 u126 u127 u128 u129 u130 u131 u132 u133 u134 u135 u136 u137 u138 u139 u140 u141 u142 u143 u144 u145 u146 u147 u148 u149 u150 u151 u152 u153 u154 u155 u156 u157 u158 u159 u160 u161 u162 u163 u164 u165 u166 u167 u168 u169 u170 u171 u172 u173 u174 u175 u176 u177 u178 u179 u180 u181 u182 u183 u184 u185 u186 u187 u188 u189 u190 u191 u192 u193 u194 u195 u196 u197 u198 u199 u200 u201 u202 u203 u204 u205 u206 u207 u208 u209 u210 u211 u212 u213 u214 u215 u216 u217 u218 u219 u220 u221 u222 u223 u224 u225 u226 u227 : Value)
    (_hPan : ∀ (c : List PanicEntry) (a : Act) (d : Tmp) (v : Value) (w : World), Q (.panic c) (a.put (some d) v) w → Q (.panic c) a w)
    (hQ : ∀ (v19 v210 v211 v212 v213 v214 v215 v216 v217 v218 v219 v220 v221 v222 v223 v224 v225 v226 : Value) (w' : World), IRow w' G 27 .u8 (nums (outB s.list)) → Below G w8 w' → Q .normal ⟨#[u0, u1, u2, u3, .pointer (some ⟨BH, 0, none⟩), u5, u6, u7, u8, u9, u10, u11, u12, u13, u14, u15, u16, u17, .pointer (some ⟨G, 0, none⟩), v19, u20, u21, u22, u23, u24, u25, u26, u27, u28, u29, u30, u31, u32, u33, u34, u35, u36, u37, u38, u39, u40, u41, u42, u43, u44, u45, u46, u47, u48, u49, u50, u51, u52, u53, u54, u55, u56, u57, u58, u59, u60, u61, u62, u63, u64, u65, u66, u67, u68, u69, u70, u71, u72, u73, u74, u75, u76, u77, u78, u79, u80, u81, u82, u83, u84, u85, u86, u87, u88, u89, u90, u91, u92, u93, u94, u95, u96, u97, u98, u99, u100, u101, u102, u103, u104, u105, u106, u107, u108, u109, u110, u111, u112, u113, u114, u115, u116, u117, u118, u119, u120, u121, u122, u123, u124, u125, u126, u127, u128, u129, u130, u131, u132, u133, u134, u135, u136, u137, u138, u139, u140, u141, u142, u143, u144, u145, u146, u147, u148, u149, u150, u151, u152, u153, u154, u155, u156, u157, u158, u159, u160, u161, u162, u163, u164, u165, u166, u167, u168, u169, u170, u171, u172, u173, u174, u175, u176, u177, u178, u179, u180, u181, u182, u183, u184, u185, u186, u187, u188, u189, u190, u191, u192, u193, u194, u195, u196, u197, u198, u199, u200, u201, u202, u203, u204, u205, u206, u207, u208, u209, v210, v211, v212, v213, v214, v215, v216, v217, v218, v219, v220, v221, v222, v223, v224, v225, v226, u227], []⟩ w') :
    Code.wp Tryd.prog (blkOf 12 Tryd.f12) Q ⟨#[u0, u1, u2, u3, .pointer (some ⟨BH, 0, none⟩), u5, u6, u7, u8, u9, u10, u11, u12, u13, u14, u15, u16, u17, .pointer (some ⟨G, 0, none⟩), .int .i64 0, u20, u21, u22, u23, u24, u25, u26, u27, u28, u29, u30, u31, u32, u33, u34, u35, u36, u37, u38, u39, u40, u41, u42, u43, u44, u45, u46, u47, u48, u49, u50, u51, u52, u53, u54, u55, u56, u57, u58, u59, u60, u61, u62, u63, u64, u65, u66, u67, u68, u69, u70, u71, u72, u73, u74, u75, u76, u77, u78, u79, u80, u81, u82, u83, u84, u85, u86, u87, u88, u89, u90, u91, u92, u93, u94, u95, u96, u97, u98, u99, u100, u101, u102, u103, u104, u105, u106, u107, u108, u109, u110, u111, u112, u113, u114, u115, u116, u117, u118, u119, u120, u121, u122, u123, u124, u125, u126, u127, u128, u129, u130, u131, u132, u133, u134, u135, u136, u137, u138, u139, u140, u141, u142, u143, u144, u145, u146, u147, u148, u149, u150, u151, u152, u153, u154, u155, u156, u157, u158, u159, u160, u161, u162, u163, u164, u165, u166, u167, u168, u169, u170, u171, u172, u173, u174, u175, u176, u177, u178, u179, u180, u181, u182, u183, u184, u185, u186, u187, u188, u189, u190, u191, u192, u193, u194, u195, u196, u197, u198, u199, u200, u201, u202, u203, u204, u205, u206, u207, u208, u209, u210, u211, u212, u213, u214, u215, u216, u217, u218, u219, u220, u221, u222, u223, u224, u225, u226, u227], []⟩ w8 := by
  conv => arg 2; whnf
  have HQ := Lib.hid hQ
  have RH := Lib.hid rH
  have RG := Lib.hid rG
  have HOK := Lib.hid hok
  have HOL := Lib.hid (show (nums (outB s.list)).length = 32 by rw [nums_length, outB_length]; rfl)
  clear hQ rH rG hok
  go_wp2_with fail
  go_loopw [19] (fun v19 wr => ∃ i : Nat, i ≤ 32 ∧ v19 = .int .i64 (i : Int) ∧ IRow wr G 27 .u8 (padZ 32 ((nums (outB s.list)).take i)) ∧ Below G w8 wr) (fun v19 _ => 32 - (intOf v19).toNat)
  case atStart => exact ⟨0, by omega, rfl, RG.out, Below.refl _ _⟩
  case round =>
    obtain ⟨i, hi, rfl, hrow, hbel⟩ := hrel
    by_cases h32 : i < 32
    · obtain ⟨q, hq⟩ : ∃ q, q = i / 4 := ⟨_, rfl⟩
      obtain ⟨r, hr⟩ : ∃ r, r = i % 4 := ⟨_, rfl⟩
      obtain ⟨sh, hsh⟩ : ∃ sh, sh = 24 - 8 * r := ⟨_, rfl⟩
      have e1 : (i : Int) / 4 = (q : Int) := by omega
      have e2 : (i : Int) % 4 = (r : Int) := by omega
      have e3 : 24 - 8 * (r : Int) = (sh : Int) := by omega
      have bq : (q : Int) < 8 := by omega
      have bs32 : sh ≤ 24 := by omega
      have b32 : (i : Int) < 32 := by omega
      obtain ⟨x, hx⟩ : ∃ x, s.list[q]? = some x := ⟨_, List.getElem?_eq_getElem (by have : s.list.length = 8 := rfl; omega)⟩
      have hxu : U32 x := S8.mem_ok HOK.out (List.mem_of_getElem? hx)
      have hat := outB_at s.list (i := i) (x := x) (by rw [← hq]; exact hx) hxu
      rw [← hr, ← hsh] at hat
      have hcx : wr.cell? ⟨BH, q, none⟩ = some (.int .u32 x) := (RH.out.below hbel hHG).cell hx
      have htl : ((nums (outB s.list)).take i).length = i := by rw [List.length_take, HOL.out]; omega
      have hcg : wr.cell? ⟨G, i, none⟩ = some (.int .u8 0) := hrow.cell (by have h := padZ_next (n := 32) (l := (nums (outB s.list)).take i) (by omega); rw [htl] at h; exact h)
      have hfg := hrow.free i
      have hset := hrow.set i (x / 2 ^ sh % 256)
      have hpz := padZ_set (n := 32) (l := (nums (outB s.list)).take i) (z := x / 2 ^ sh % 256) (by omega)
      rw [htl] at hpz
      have htk : (nums (outB s.list)).take i ++ [x / 2 ^ sh % 256] = (nums (outB s.list)).take (i + 1) := by rw [List.take_add_one, hat]; rfl
      rw [hpz, htk] at hset
      have HSET := Lib.hid hset
      have HBEL := Lib.hid hbel
      clear hx hxu hat htl hpz htk hset hrow hbel hq hr hsh
      go_wp2_with fail
      
      exact ⟨⟨i + 1, by omega, by go_num, HSET.out, HBEL.out.setCell (p := ⟨G, i, none⟩) (Nat.le_refl _) _⟩, by simp [intOf]; omega⟩
    · obtain rfl : i = 32 := by omega
      have e32 : ((32 : Nat) : Int) = 32 := rfl
      rw [e32]
      rw [List.take_of_length_le (by rw [HOL.out]; omega), padZ_full HOL.out] at hrow
      have HR := Lib.hid hrow
      have HBEL := Lib.hid hbel
      clear e32 hrow hbel h32
      go_wp2_with fail
      exact HQ.out _ _ _ _ _ _ _ _ _ _ _ _ _ _ _ _ _ _ _ HR.out HBEL.out
end Go.Proofs.YtnmegdhidpkklaaDoor
