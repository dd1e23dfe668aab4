/-
  Texts joined: S5RB8, S5RB10. Conditions: those of each.
-/
import Derived.Test.YtfkpdbmgiefnfaaDoorP24
import Derived.Test.YtfkpdbmgiefnfaaDoorP10
/-
  The reference's Sum512: the sixty-four rounds. Conditions: none.
-/
namespace Go.Proofs.YtfkpdbmgiefnfaaDoor.S5
open Go.RowKit

theorem kk_at {t : Nat} (h : t < 80) : ∃ k, k512[t]? = some k ∧ U64 k := by
  have hl : k512.length = 80 := rfl
  refine ⟨k512[t]'(by omega), List.getElem?_eq_getElem _, ?_⟩
  have h2 : ∀ x ∈ k512, 0 ≤ x ∧ x < 18446744073709551616 := by decide
  exact h2 _ (List.getElem_mem _)
set_option maxRecDepth 1000000 in
set_option maxHeartbeats 12800000 in
theorem rb8_any {Q : Exit → Act → World → Prop} (BK W V : Nat) (bs : List UInt8) (s0 : S8) (w6 : World) (hok : s0.Ok) (hKV : BK < V) (hWV : W < V) (rK : IRow w6 BK 103 .u64 k512) (rW : IRow w6 W 103 .u64 (W80 bs)) (rV : IRow w6 V 90 .u64 s0.list) (u0 u1 u2 u4 u5 u6 u8 u9 u10 u11 u12 u15 u16 u17 u18 u19 u20 u21 u22 u23 u24 u25 u26 u27 u28 u29 u30 u31 u32 u33 u34 u35 u36 u37 u38 u39 u40 u41 u42 u43 u44 u45 u46 u47 u48 u49 u50 u51 u52 u53 u54 u55 u56 u57 u58 u59 u60 u61 u62 u63 u64 u65 u66 u67 u68 u69 u70 u71 u72 u73 u74 u75 u76 u77 u78 u79 u80 u81 u82 u83 u84 u85 u86 u87 u88 u89 u90 u91 u92 u93 u94 u95 u96 u97 u98 u99 u100 u101 u102 u103 u104 u105 u106 u107 u108 u109 u110 u111 u112 u113 u114 u115 u116 u117 u118 u119 u120 u121 u122 u123 u124 u125 u126 u127 u128 u129 u130 u131 u132 u133 u134 u135 u136 u137 u138 u139 u140 u141 u142 u143 u144 u145 u146 u147 u148 u149 u150 u151 u152 u153 u154 u155 u156 u157 u158 u159 u160 u161 u162 u163 u164 u165 u166 u167 u168 u169 u170 u171 u172 u173 u174 u175 u176 u177 u178 u179 u180 u181 u182 u183 u184 u185 u186 u187 u188 u189 u190 u191 u192 u193 u194 u195 u196 u197 u198 u199 u200 u201 u202 u203 u204 u205 u206 u207 u208 u209 u210 u211 u212 u213 u214 u215 u216 u217 u218 u219 u220 u221 u222 u223 u224 u225 u226 u227 : Value)
    (hPan : ∀ (c : List PanicEntry) (a : Act) (d : Tmp) (v : Value) (w : World), Q (.panic c) (a.put (some d) v) w → Q (.panic c) a w)
    (hQ : ∀ (v14 v15 v16 v109 v110 v111 v112 v113 v114 v115 v116 v117 v118 v119 v120 v121 v122 v123 v124 v125 v126 v127 v128 v129 v130 v131 v132 v133 v134 v135 v136 v137 v138 v139 v140 v141 v142 v143 v144 v145 v146 v147 v148 v149 v150 v151 v152 v153 v154 v155 v156 v157 v158 v159 v160 v161 v162 v163 v164 v165 v166 v167 v168 v169 v170 v171 v172 v173 v174 v175 v176 v177 v178 v179 v180 v181 v182 v183 v184 v185 v186 v187 v188 v189 v190 v191 v192 v193 v194 v195 v196 : Value) (w' : World), IRow w' V 90 .u64 (rounds k512 (W80 bs) 80 s0).list → Below V w6 w' → Q .normal ⟨#[u0, u1, u2, .pointer (some ⟨BK, 0, none⟩), u4, u5, u6, .pointer (some ⟨W, 0, none⟩), u8, u9, u10, u11, u12, .pointer (some ⟨V, 0, none⟩), v14, v15, v16, u17, u18, u19, u20, u21, u22, u23, u24, u25, u26, u27, u28, u29, u30, u31, u32, u33, u34, u35, u36, u37, u38, u39, u40, u41, u42, u43, u44, u45, u46, u47, u48, u49, u50, u51, u52, u53, u54, u55, u56, u57, u58, u59, u60, u61, u62, u63, u64, u65, u66, u67, u68, u69, u70, u71, u72, u73, u74, u75, u76, u77, u78, u79, u80, u81, u82, u83, u84, u85, u86, u87, u88, u89, u90, u91, u92, u93, u94, u95, u96, u97, u98, u99, u100, u101, u102, u103, u104, u105, u106, u107, u108, v109, v110, v111, v112, v113, v114, v115, v116, v117, v118, v119, v120, v121, v122, v123, v124, v125, v126, v127, v128, v129, v130, v131, v132, v133, v134, v135, v136, v137, v138, v139, v140, v141, v142, v143, v144, v145, v146, v147, v148, v149, v150, v151, v152, v153, v154, v155, v156, v157, v158, v159, v160, v161, v162, v163, v164, v165, v166, v167, v168, v169, v170, v171, v172, v173, v174, v175, v176, v177, v178, v179, v180, v181, v182, v183, v184, v185, v186, v187, v188, v189, v190, v191, v192, v193, v194, v195, v196, u197, u198, u199, u200, u201, u202, u203, u204, u205, u206, u207, u208, u209, u210, u211, u212, u213, u214, u215, u216, u217, u218, u219, u220, u221, u222, u223, u224, u225, u226, u227], []⟩ w') :
    Code.wp Tryd.prog (blkOf 8 Tryd.f31) Q ⟨#[u0, u1, u2, .pointer (some ⟨BK, 0, none⟩), u4, u5, u6, .pointer (some ⟨W, 0, none⟩), u8, u9, u10, u11, u12, .pointer (some ⟨V, 0, none⟩), .int .i64 0, u15, u16, u17, u18, u19, u20, u21, u22, u23, u24, u25, u26, u27, u28, u29, u30, u31, u32, u33, u34, u35, u36, u37, u38, u39, u40, u41, u42, u43, u44, u45, u46, u47, u48, u49, u50, u51, u52, u53, u54, u55, u56, u57, u58, u59, u60, u61, u62, u63, u64, u65, u66, u67, u68, u69, u70, u71, u72, u73, u74, u75, u76, u77, u78, u79, u80, u81, u82, u83, u84, u85, u86, u87, u88, u89, u90, u91, u92, u93, u94, u95, u96, u97, u98, u99, u100, u101, u102, u103, u104, u105, u106, u107, u108, u109, u110, u111, u112, u113, u114, u115, u116, u117, u118, u119, u120, u121, u122, u123, u124, u125, u126, u127, u128, u129, u130, u131, u132, u133, u134, u135, u136, u137, u138, u139, u140, u141, u142, u143, u144, u145, u146, u147, u148, u149, u150, u151, u152, u153, u154, u155, u156, u157, u158, u159, u160, u161, u162, u163, u164, u165, u166, u167, u168, u169, u170, u171, u172, u173, u174, u175, u176, u177, u178, u179, u180, u181, u182, u183, u184, u185, u186, u187, u188, u189, u190, u191, u192, u193, u194, u195, u196, u197, u198, u199, u200, u201, u202, u203, u204, u205, u206, u207, u208, u209, u210, u211, u212, u213, u214, u215, u216, u217, u218, u219, u220, u221, u222, u223, u224, u225, u226, u227], []⟩ w6 := by
  conv => arg 2; whnf
  have HQ := Lib.hid hQ
  have RK := Lib.hid rK
  have RW := Lib.hid rW
  have RV := Lib.hid rV
  have HS := Lib.hid hok
  clear hQ rK rW rV hok
  go_wp2_with fail
  go_loopw [14] (fun v14 wr => ∃ (t : Nat) (s : S8), t ≤ 80 ∧ Hid (s = rounds k512 (W80 bs) t s0) ∧ v14 = .int .i64 (t : Int) ∧ IRow wr V 90 .u64 s.list ∧ Below V w6 wr) (fun v14 _ => 80 - (intOf v14).toNat)
  case atStart => exact ⟨0, s0, by omega, Lib.hid rfl, rfl, RV.out, Below.refl _ _⟩
  case round =>
    obtain ⟨t, s, ht, hst, rfl, hrow, hbel⟩ := hrel
    by_cases h64 : t < 80
    · obtain ⟨kk, hk, hkk⟩ := kk_at h64
      obtain ⟨x, hx⟩ : ∃ x, (W80 bs)[t]? = some x := ⟨_, List.getElem?_eq_getElem (by rw [W80_length]; omega)⟩
      have kc : wr.cell? ⟨BK, t, none⟩ = some (.int .u64 kk) := (RK.out.below hbel hKV).cell hk
      have wc : wr.cell? ⟨W, t, none⟩ = some (.int .u64 x) := (RW.out.below hbel hWV).cell hx
      have m0 := hrow.cell (i := 0) rfl
      have m1 := hrow.cell (i := 1) rfl
      have m2 := hrow.cell (i := 2) rfl
      have m3 := hrow.cell (i := 3) rfl
      have m4 := hrow.cell (i := 4) rfl
      have m5 := hrow.cell (i := 5) rfl
      have m6 := hrow.cell (i := 6) rfl
      have m7 := hrow.cell (i := 7) rfl
      have bt : (t : Int) < 80 := by omega
      have hok : s.Ok := by rw [hst.out]; exact rounds_ok _ _ _ HS.out
      have C1 := Lib.hid (fun W => rrot_any s.e 14 50 W hok.e (by omega))
      have C2 := Lib.hid (fun W => rrot_any s.e 18 46 W hok.e (by omega))
      have C3 := Lib.hid (fun W => rrot_any s.e 41 23 W hok.e (by omega))
      have C4 := Lib.hid (fun W => rrot_any s.a 28 36 W hok.a (by omega))
      have C5 := Lib.hid (fun W => rrot_any s.a 34 30 W hok.a (by omega))
      have C6 := Lib.hid (fun W => rrot_any s.a 39 25 W hok.a (by omega))
      have HX := Lib.hid hx
      have HK := Lib.hid hk
      have HROW := Lib.hid hrow
      have HBEL := Lib.hid hbel
      clear hx hk hrow hbel hok hkk
      go_wp2_with fail
      refine wp_region_held_drew (S := (fun w' => w'.cell? ⟨V, 4, none⟩ = some (.int .u64 s.e) ∧ w'.cell? ⟨V, 5, none⟩ = some (.int .u64 s.f) ∧ w'.cell? ⟨V, 6, none⟩ = some (.int .u64 s.g) ∧ w'.cell? ⟨V, 7, none⟩ = some (.int .u64 s.h) ∧ w'.cell? ⟨BK, t, none⟩ = some (.int .u64 kk) ∧ w'.cell? ⟨W, t, none⟩ = some (.int .u64 x))) (by kernel_rfl) ?_ (fun hHeld => ?_)
      · exact ⟨m4, m5, m6, m7, kc, wc⟩
      refine wpAnyH_take (i := 0) (oi := { dst := some 113, op := Go.Op.indexAddr 90 (Go.Operand.tmp 13) (Go.Operand.const (Go.Value.int Go.IntKind.i64 7)), type := 0, pos := "ref.go:86", after := #[], guard := none }) (v := ?av0) rfl (by kernel_rfl) (by kernel_rfl) (by kernel_rfl) (fun _ _ _ h => hPan _ _ _ _ _ h) (Or.inl ⟨by rfl, ?ay0⟩) (by assumption) ?ar0
      case ay0 => (intro w hSw; (try dsimp only at hSw); go_simp; try (with_reducible rfl))
      case ar0 =>
      try simp only [Act.put, List.setIfInBounds_toArray, List.set_cons_zero, List.set_cons_succ]
      refine wpAnyH_take (i := 1) (oi := { dst := some 114, op := Go.Op.load 57 (Go.Operand.tmp 113), type := 57, pos := "ref.go:86", after := #[{ on := 0, ground := Go.Ground.data }], guard := none }) (v := ?av1) rfl (by kernel_rfl) (by kernel_rfl) (by kernel_rfl) (fun _ _ _ h => hPan _ _ _ _ _ h) (Or.inl ⟨by rfl, ?ay1⟩) (by assumption) ?ar1
      case ay1 => (intro w hSw; (try dsimp only at hSw); go_simp; try (with_reducible rfl))
      case ar1 =>
      try simp only [Act.put, List.setIfInBounds_toArray, List.set_cons_zero, List.set_cons_succ]
      refine wpAnyH_take (i := 2) (oi := { dst := some 115, op := Go.Op.indexAddr 90 (Go.Operand.tmp 13) (Go.Operand.const (Go.Value.int Go.IntKind.i64 4)), type := 0, pos := "ref.go:86", after := #[], guard := none }) (v := ?av2) rfl (by kernel_rfl) (by kernel_rfl) (by kernel_rfl) (fun _ _ _ h => hPan _ _ _ _ _ h) (Or.inl ⟨by rfl, ?ay2⟩) (by assumption) ?ar2
      case ay2 => (intro w hSw; (try dsimp only at hSw); go_simp; try (with_reducible rfl))
      case ar2 =>
      try simp only [Act.put, List.setIfInBounds_toArray, List.set_cons_zero, List.set_cons_succ]
      refine wpAnyH_take (i := 3) (oi := { dst := some 116, op := Go.Op.load 57 (Go.Operand.tmp 115), type := 57, pos := "ref.go:86", after := #[{ on := 2, ground := Go.Ground.data }], guard := none }) (v := ?av3) rfl (by kernel_rfl) (by kernel_rfl) (by kernel_rfl) (fun _ _ _ h => hPan _ _ _ _ _ h) (Or.inl ⟨by rfl, ?ay3⟩) (by assumption) ?ar3
      case ay3 => (intro w hSw; (try dsimp only at hSw); go_simp; try (with_reducible rfl))
      case ar3 =>
      try simp only [Act.put, List.setIfInBounds_toArray, List.set_cons_zero, List.set_cons_succ]
      refine wpAnyH_take (i := 5) (oi := { dst := some 118, op := Go.Op.indexAddr 90 (Go.Operand.tmp 13) (Go.Operand.const (Go.Value.int Go.IntKind.i64 4)), type := 0, pos := "ref.go:86", after := #[], guard := none }) (v := ?av5) rfl (by kernel_rfl) (by kernel_rfl) (by kernel_rfl) (fun _ _ _ h => hPan _ _ _ _ _ h) (Or.inl ⟨by rfl, ?ay5⟩) (by assumption) ?ar5
      case ay5 => (intro w hSw; (try dsimp only at hSw); go_simp; try (with_reducible rfl))
      case ar5 =>
      try simp only [Act.put, List.setIfInBounds_toArray, List.set_cons_zero, List.set_cons_succ]
      refine wpAnyH_take (i := 6) (oi := { dst := some 119, op := Go.Op.load 57 (Go.Operand.tmp 118), type := 57, pos := "ref.go:86", after := #[{ on := 5, ground := Go.Ground.data }], guard := none }) (v := ?av6) rfl (by kernel_rfl) (by kernel_rfl) (by kernel_rfl) (fun _ _ _ h => hPan _ _ _ _ _ h) (Or.inl ⟨by rfl, ?ay6⟩) (by assumption) ?ar6
      case ay6 => (intro w hSw; (try dsimp only at hSw); go_simp; try (with_reducible rfl))
      case ar6 =>
      try simp only [Act.put, List.setIfInBounds_toArray, List.set_cons_zero, List.set_cons_succ]
      refine wpAnyH_take (i := 9) (oi := { dst := some 122, op := Go.Op.indexAddr 90 (Go.Operand.tmp 13) (Go.Operand.const (Go.Value.int Go.IntKind.i64 4)), type := 0, pos := "ref.go:86", after := #[], guard := none }) (v := ?av9) rfl (by kernel_rfl) (by kernel_rfl) (by kernel_rfl) (fun _ _ _ h => hPan _ _ _ _ _ h) (Or.inl ⟨by rfl, ?ay9⟩) (by assumption) ?ar9
      case ay9 => (intro w hSw; (try dsimp only at hSw); go_simp; try (with_reducible rfl))
      case ar9 =>
      try simp only [Act.put, List.setIfInBounds_toArray, List.set_cons_zero, List.set_cons_succ]
      refine wpAnyH_take (i := 10) (oi := { dst := some 123, op := Go.Op.load 57 (Go.Operand.tmp 122), type := 57, pos := "ref.go:86", after := #[{ on := 9, ground := Go.Ground.data }], guard := none }) (v := ?av10) rfl (by kernel_rfl) (by kernel_rfl) (by kernel_rfl) (fun _ _ _ h => hPan _ _ _ _ _ h) (Or.inl ⟨by rfl, ?ay10⟩) (by assumption) ?ar10
      case ay10 => (intro w hSw; (try dsimp only at hSw); go_simp; try (with_reducible rfl))
      case ar10 =>
      try simp only [Act.put, List.setIfInBounds_toArray, List.set_cons_zero, List.set_cons_succ]
      refine wpAnyH_take (i := 14) (oi := { dst := some 127, op := Go.Op.indexAddr 90 (Go.Operand.tmp 13) (Go.Operand.const (Go.Value.int Go.IntKind.i64 4)), type := 0, pos := "ref.go:86", after := #[], guard := none }) (v := ?av14) rfl (by kernel_rfl) (by kernel_rfl) (by kernel_rfl) (fun _ _ _ h => hPan _ _ _ _ _ h) (Or.inl ⟨by rfl, ?ay14⟩) (by assumption) ?ar14
      case ay14 => (intro w hSw; (try dsimp only at hSw); go_simp; try (with_reducible rfl))
      case ar14 =>
      try simp only [Act.put, List.setIfInBounds_toArray, List.set_cons_zero, List.set_cons_succ]
      refine wpAnyH_take (i := 15) (oi := { dst := some 128, op := Go.Op.load 57 (Go.Operand.tmp 127), type := 57, pos := "ref.go:86", after := #[{ on := 14, ground := Go.Ground.data }], guard := none }) (v := ?av15) rfl (by kernel_rfl) (by kernel_rfl) (by kernel_rfl) (fun _ _ _ h => hPan _ _ _ _ _ h) (Or.inl ⟨by rfl, ?ay15⟩) (by assumption) ?ar15
      case ay15 => (intro w hSw; (try dsimp only at hSw); go_simp; try (with_reducible rfl))
      case ar15 =>
      try simp only [Act.put, List.setIfInBounds_toArray, List.set_cons_zero, List.set_cons_succ]
      refine wpAnyH_take (i := 16) (oi := { dst := some 129, op := Go.Op.indexAddr 90 (Go.Operand.tmp 13) (Go.Operand.const (Go.Value.int Go.IntKind.i64 5)), type := 0, pos := "ref.go:86", after := #[], guard := none }) (v := ?av16) rfl (by kernel_rfl) (by kernel_rfl) (by kernel_rfl) (fun _ _ _ h => hPan _ _ _ _ _ h) (Or.inl ⟨by rfl, ?ay16⟩) (by assumption) ?ar16
      case ay16 => (intro w hSw; (try dsimp only at hSw); go_simp; try (with_reducible rfl))
      case ar16 =>
      try simp only [Act.put, List.setIfInBounds_toArray, List.set_cons_zero, List.set_cons_succ]
      refine wpAnyH_take (i := 17) (oi := { dst := some 130, op := Go.Op.load 57 (Go.Operand.tmp 129), type := 57, pos := "ref.go:86", after := #[{ on := 16, ground := Go.Ground.data }], guard := none }) (v := ?av17) rfl (by kernel_rfl) (by kernel_rfl) (by kernel_rfl) (fun _ _ _ h => hPan _ _ _ _ _ h) (Or.inl ⟨by rfl, ?ay17⟩) (by assumption) ?ar17
      case ay17 => (intro w hSw; (try dsimp only at hSw); go_simp; try (with_reducible rfl))
      case ar17 =>
      try simp only [Act.put, List.setIfInBounds_toArray, List.set_cons_zero, List.set_cons_succ]
      refine wpAnyH_take (i := 18) (oi := { dst := some 131, op := Go.Op.binOp Go.BinOp.and 57 (Go.Operand.tmp 128) (Go.Operand.tmp 130) 57, type := 57, pos := "ref.go:86", after := #[{ on := 15, ground := Go.Ground.data }, { on := 17, ground := Go.Ground.data }], guard := none }) (v := ?av18) rfl (by kernel_rfl) (by kernel_rfl) (by kernel_rfl) (fun _ _ _ h => hPan _ _ _ _ _ h) (Or.inl ⟨by rfl, ?ay18⟩) (by assumption) ?ar18
      case ay18 => (intro w hSw; (try dsimp only at hSw); go_simp; try (with_reducible rfl))
      case ar18 =>
      try simp only [Act.put, List.setIfInBounds_toArray, List.set_cons_zero, List.set_cons_succ]
      refine wpAnyH_take (i := 19) (oi := { dst := some 132, op := Go.Op.indexAddr 90 (Go.Operand.tmp 13) (Go.Operand.const (Go.Value.int Go.IntKind.i64 4)), type := 0, pos := "ref.go:86", after := #[], guard := none }) (v := ?av19) rfl (by kernel_rfl) (by kernel_rfl) (by kernel_rfl) (fun _ _ _ h => hPan _ _ _ _ _ h) (Or.inl ⟨by rfl, ?ay19⟩) (by assumption) ?ar19
      case ay19 => (intro w hSw; (try dsimp only at hSw); go_simp; try (with_reducible rfl))
      case ar19 =>
      try simp only [Act.put, List.setIfInBounds_toArray, List.set_cons_zero, List.set_cons_succ]
      refine wpAnyH_take (i := 20) (oi := { dst := some 133, op := Go.Op.load 57 (Go.Operand.tmp 132), type := 57, pos := "ref.go:86", after := #[{ on := 19, ground := Go.Ground.data }], guard := none }) (v := ?av20) rfl (by kernel_rfl) (by kernel_rfl) (by kernel_rfl) (fun _ _ _ h => hPan _ _ _ _ _ h) (Or.inl ⟨by rfl, ?ay20⟩) (by assumption) ?ar20
      case ay20 => (intro w hSw; (try dsimp only at hSw); go_simp; try (with_reducible rfl))
      case ar20 =>
      try simp only [Act.put, List.setIfInBounds_toArray, List.set_cons_zero, List.set_cons_succ]
      refine wpAnyH_take (i := 21) (oi := { dst := some 134, op := Go.Op.unOp Go.UnOp.xor 57 (Go.Operand.tmp 133), type := 57, pos := "ref.go:86", after := #[{ on := 20, ground := Go.Ground.data }], guard := none }) (v := ?av21) rfl (by kernel_rfl) (by kernel_rfl) (by kernel_rfl) (fun _ _ _ h => hPan _ _ _ _ _ h) (Or.inl ⟨by rfl, ?ay21⟩) (by assumption) ?ar21
      case ay21 => (intro w hSw; (try dsimp only at hSw); go_simp; try (with_reducible rfl))
      case ar21 =>
      try simp only [Act.put, List.setIfInBounds_toArray, List.set_cons_zero, List.set_cons_succ]
      refine wpAnyH_take (i := 22) (oi := { dst := some 135, op := Go.Op.indexAddr 90 (Go.Operand.tmp 13) (Go.Operand.const (Go.Value.int Go.IntKind.i64 6)), type := 0, pos := "ref.go:86", after := #[], guard := none }) (v := ?av22) rfl (by kernel_rfl) (by kernel_rfl) (by kernel_rfl) (fun _ _ _ h => hPan _ _ _ _ _ h) (Or.inl ⟨by rfl, ?ay22⟩) (by assumption) ?ar22
      case ay22 => (intro w hSw; (try dsimp only at hSw); go_simp; try (with_reducible rfl))
      case ar22 =>
      try simp only [Act.put, List.setIfInBounds_toArray, List.set_cons_zero, List.set_cons_succ]
      refine wpAnyH_take (i := 23) (oi := { dst := some 136, op := Go.Op.load 57 (Go.Operand.tmp 135), type := 57, pos := "ref.go:86", after := #[{ on := 22, ground := Go.Ground.data }], guard := none }) (v := ?av23) rfl (by kernel_rfl) (by kernel_rfl) (by kernel_rfl) (fun _ _ _ h => hPan _ _ _ _ _ h) (Or.inl ⟨by rfl, ?ay23⟩) (by assumption) ?ar23
      case ay23 => (intro w hSw; (try dsimp only at hSw); go_simp; try (with_reducible rfl))
      case ar23 =>
      try simp only [Act.put, List.setIfInBounds_toArray, List.set_cons_zero, List.set_cons_succ]
      refine wpAnyH_take (i := 24) (oi := { dst := some 137, op := Go.Op.binOp Go.BinOp.and 57 (Go.Operand.tmp 134) (Go.Operand.tmp 136) 57, type := 57, pos := "ref.go:86", after := #[{ on := 21, ground := Go.Ground.data }, { on := 23, ground := Go.Ground.data }], guard := none }) (v := ?av24) rfl (by kernel_rfl) (by kernel_rfl) (by kernel_rfl) (fun _ _ _ h => hPan _ _ _ _ _ h) (Or.inl ⟨by rfl, ?ay24⟩) (by assumption) ?ar24
      case ay24 => (intro w hSw; (try dsimp only at hSw); go_simp; try (with_reducible rfl))
      case ar24 =>
      try simp only [Act.put, List.setIfInBounds_toArray, List.set_cons_zero, List.set_cons_succ]
      refine wpAnyH_take (i := 25) (oi := { dst := some 138, op := Go.Op.binOp Go.BinOp.xor 57 (Go.Operand.tmp 131) (Go.Operand.tmp 137) 57, type := 57, pos := "ref.go:86", after := #[{ on := 18, ground := Go.Ground.data }, { on := 24, ground := Go.Ground.data }], guard := none }) (v := ?av25) rfl (by kernel_rfl) (by kernel_rfl) (by kernel_rfl) (fun _ _ _ h => hPan _ _ _ _ _ h) (Or.inl ⟨by rfl, ?ay25⟩) (by assumption) ?ar25
      case ay25 => (intro w hSw; (try dsimp only at hSw); go_simp; try (with_reducible rfl))
      case ar25 =>
      try simp only [Act.put, List.setIfInBounds_toArray, List.set_cons_zero, List.set_cons_succ]
      refine wpAnyH_take (i := 27) (oi := { dst := some 140, op := Go.Op.move (Go.Operand.tmp 14), type := 3, pos := "ref.go:86", after := #[], guard := none }) (v := ?av27) rfl (by kernel_rfl) (by kernel_rfl) (by kernel_rfl) (fun _ _ _ h => hPan _ _ _ _ _ h) (Or.inl ⟨by rfl, ?ay27⟩) (by assumption) ?ar27
      case ay27 => (intro w hSw; (try dsimp only at hSw); go_simp; try (with_reducible rfl))
      case ar27 =>
      try simp only [Act.put, List.setIfInBounds_toArray, List.set_cons_zero, List.set_cons_succ]
      refine wpAnyH_take (i := 28) (oi := { dst := some 141, op := Go.Op.indexAddr 103 (Go.Operand.tmp 3) (Go.Operand.tmp 140), type := 0, pos := "ref.go:86", after := #[{ on := 27, ground := Go.Ground.data }], guard := none }) (v := ?av28) rfl (by kernel_rfl) (by kernel_rfl) (by kernel_rfl) (fun _ _ _ h => hPan _ _ _ _ _ h) (Or.inl ⟨by rfl, ?ay28⟩) (by assumption) ?ar28
      case ay28 => (intro w hSw; (try dsimp only at hSw); go_simp; try (with_reducible rfl))
      case ar28 =>
      try simp only [Act.put, List.setIfInBounds_toArray, List.set_cons_zero, List.set_cons_succ]
      refine wpAnyH_take (i := 29) (oi := { dst := some 142, op := Go.Op.load 57 (Go.Operand.tmp 141), type := 57, pos := "ref.go:86", after := #[{ on := 28, ground := Go.Ground.data }], guard := none }) (v := ?av29) rfl (by kernel_rfl) (by kernel_rfl) (by kernel_rfl) (fun _ _ _ h => hPan _ _ _ _ _ h) (Or.inl ⟨by rfl, ?ay29⟩) (by assumption) ?ar29
      case ay29 => (intro w hSw; (try dsimp only at hSw); go_simp; try (with_reducible rfl))
      case ar29 =>
      try simp only [Act.put, List.setIfInBounds_toArray, List.set_cons_zero, List.set_cons_succ]
      refine wpAnyH_take (i := 31) (oi := { dst := some 144, op := Go.Op.move (Go.Operand.tmp 14), type := 3, pos := "ref.go:86", after := #[], guard := none }) (v := ?av31) rfl (by kernel_rfl) (by kernel_rfl) (by kernel_rfl) (fun _ _ _ h => hPan _ _ _ _ _ h) (Or.inl ⟨by rfl, ?ay31⟩) (by assumption) ?ar31
      case ay31 => (intro w hSw; (try dsimp only at hSw); go_simp; try (with_reducible rfl))
      case ar31 =>
      try simp only [Act.put, List.setIfInBounds_toArray, List.set_cons_zero, List.set_cons_succ]
      refine wpAnyH_take (i := 32) (oi := { dst := some 145, op := Go.Op.indexAddr 103 (Go.Operand.tmp 7) (Go.Operand.tmp 144), type := 0, pos := "ref.go:86", after := #[{ on := 31, ground := Go.Ground.data }], guard := none }) (v := ?av32) rfl (by kernel_rfl) (by kernel_rfl) (by kernel_rfl) (fun _ _ _ h => hPan _ _ _ _ _ h) (Or.inl ⟨by rfl, ?ay32⟩) (by assumption) ?ar32
      case ay32 => (intro w hSw; (try dsimp only at hSw); go_simp; try (with_reducible rfl))
      case ar32 =>
      try simp only [Act.put, List.setIfInBounds_toArray, List.set_cons_zero, List.set_cons_succ]
      refine wpAnyH_take (i := 33) (oi := { dst := some 146, op := Go.Op.load 57 (Go.Operand.tmp 145), type := 57, pos := "ref.go:86", after := #[{ on := 32, ground := Go.Ground.data }], guard := none }) (v := ?av33) rfl (by kernel_rfl) (by kernel_rfl) (by kernel_rfl) (fun _ _ _ h => hPan _ _ _ _ _ h) (Or.inl ⟨by rfl, ?ay33⟩) (by assumption) ?ar33
      case ay33 => (intro w hSw; (try dsimp only at hSw); go_simp; try (with_reducible rfl))
      case ar33 =>
      try simp only [Act.put, List.setIfInBounds_toArray, List.set_cons_zero, List.set_cons_succ]
      refine wpAnyH_ready (rs := [4]) (by kernel_rfl) (by simp) ?_
      refine AllReadyH.cons (o := { dst := some 117, op := Go.Op.call { callee := Go.Callee.value (Go.Operand.func 49), args := #[Go.Operand.tmp 116, Go.Operand.const (Go.Value.int Go.IntKind.i64 14)], argTypes := #[57, 3] }, type := 57, pos := "ref.go:86", after := #[{ on := 3, ground := Go.Ground.data }], guard := none }) rfl (fun K hK => ?_) (AllReadyH.nil)
      go_simp
      refine (C1.out _).mono ?_
      rintro e w7 ⟨rfl, rfl⟩
      go_simp
      refine hK.out _ _ ?_ (fun hHeld => ?_)
      · exact hHeld
      clear hK K
      try simp only [Act.put, List.setIfInBounds_toArray, List.set_cons_zero, List.set_cons_succ]
      refine wpAnyH_ready (rs := [7]) (by kernel_rfl) (by simp) ?_
      refine AllReadyH.cons (o := { dst := some 120, op := Go.Op.call { callee := Go.Callee.value (Go.Operand.func 49), args := #[Go.Operand.tmp 119, Go.Operand.const (Go.Value.int Go.IntKind.i64 18)], argTypes := #[57, 3] }, type := 57, pos := "ref.go:86", after := #[{ on := 6, ground := Go.Ground.data }, { on := 4, ground := Go.Ground.chain }], guard := none }) rfl (fun K hK => ?_) (AllReadyH.nil)
      go_simp
      refine (C2.out _).mono ?_
      rintro e w7 ⟨rfl, rfl⟩
      go_simp
      refine hK.out _ _ ?_ (fun hHeld => ?_)
      · exact hHeld
      clear hK K
      try simp only [Act.put, List.setIfInBounds_toArray, List.set_cons_zero, List.set_cons_succ]
      refine wpAnyH_take (i := 8) (oi := { dst := some 121, op := Go.Op.binOp Go.BinOp.xor 57 (Go.Operand.tmp 117) (Go.Operand.tmp 120) 57, type := 57, pos := "ref.go:86", after := #[{ on := 4, ground := Go.Ground.data }, { on := 7, ground := Go.Ground.data }], guard := none }) (v := ?a_4_7v8) rfl (by kernel_rfl) (by kernel_rfl) (by kernel_rfl) (fun _ _ _ h => hPan _ _ _ _ _ h) (Or.inl ⟨by rfl, ?a_4_7y8⟩) (by assumption) ?a_4_7r8
      case a_4_7y8 => (intro w hSw; (try dsimp only at hSw); go_simp; try (with_reducible rfl))
      case a_4_7r8 =>
      try simp only [Act.put, List.setIfInBounds_toArray, List.set_cons_zero, List.set_cons_succ]
      refine wpAnyH_ready (rs := [11]) (by kernel_rfl) (by simp) ?_
      refine AllReadyH.cons (o := { dst := some 124, op := Go.Op.call { callee := Go.Callee.value (Go.Operand.func 49), args := #[Go.Operand.tmp 123, Go.Operand.const (Go.Value.int Go.IntKind.i64 41)], argTypes := #[57, 3] }, type := 57, pos := "ref.go:86", after := #[{ on := 10, ground := Go.Ground.data }, { on := 7, ground := Go.Ground.chain }], guard := none }) rfl (fun K hK => ?_) (AllReadyH.nil)
      go_simp
      refine (C3.out _).mono ?_
      rintro e w7 ⟨rfl, rfl⟩
      go_simp
      refine hK.out _ _ ?_ (fun hHeld => ?_)
      · exact hHeld
      clear hK K
      try simp only [Act.put, List.setIfInBounds_toArray, List.set_cons_zero, List.set_cons_succ]
      refine wpAnyH_take (i := 12) (oi := { dst := some 125, op := Go.Op.binOp Go.BinOp.xor 57 (Go.Operand.tmp 121) (Go.Operand.tmp 124) 57, type := 57, pos := "ref.go:86", after := #[{ on := 8, ground := Go.Ground.data }, { on := 11, ground := Go.Ground.data }], guard := none }) (v := ?a_4_7_11v12) rfl (by kernel_rfl) (by kernel_rfl) (by kernel_rfl) (fun _ _ _ h => hPan _ _ _ _ _ h) (Or.inl ⟨by rfl, ?a_4_7_11y12⟩) (by assumption) ?a_4_7_11r12
      case a_4_7_11y12 => (intro w hSw; (try dsimp only at hSw); go_simp; try (with_reducible rfl))
      case a_4_7_11r12 =>
      try simp only [Act.put, List.setIfInBounds_toArray, List.set_cons_zero, List.set_cons_succ]
      refine wpAnyH_take (i := 13) (oi := { dst := some 126, op := Go.Op.binOp Go.BinOp.add 57 (Go.Operand.tmp 114) (Go.Operand.tmp 125) 57, type := 57, pos := "ref.go:86", after := #[{ on := 1, ground := Go.Ground.data }, { on := 12, ground := Go.Ground.data }], guard := none }) (v := ?a_4_7_11v13) rfl (by kernel_rfl) (by kernel_rfl) (by kernel_rfl) (fun _ _ _ h => hPan _ _ _ _ _ h) (Or.inl ⟨by rfl, ?a_4_7_11y13⟩) (by assumption) ?a_4_7_11r13
      case a_4_7_11y13 => (intro w hSw; (try dsimp only at hSw); go_simp; try (with_reducible rfl))
      case a_4_7_11r13 =>
      try simp only [Act.put, List.setIfInBounds_toArray, List.set_cons_zero, List.set_cons_succ]
      refine wpAnyH_take (i := 26) (oi := { dst := some 139, op := Go.Op.binOp Go.BinOp.add 57 (Go.Operand.tmp 126) (Go.Operand.tmp 138) 57, type := 57, pos := "ref.go:86", after := #[{ on := 13, ground := Go.Ground.data }, { on := 25, ground := Go.Ground.data }], guard := none }) (v := ?a_4_7_11v26) rfl (by kernel_rfl) (by kernel_rfl) (by kernel_rfl) (fun _ _ _ h => hPan _ _ _ _ _ h) (Or.inl ⟨by rfl, ?a_4_7_11y26⟩) (by assumption) ?a_4_7_11r26
      case a_4_7_11y26 => (intro w hSw; (try dsimp only at hSw); go_simp; try (with_reducible rfl))
      case a_4_7_11r26 =>
      try simp only [Act.put, List.setIfInBounds_toArray, List.set_cons_zero, List.set_cons_succ]
      refine wpAnyH_take (i := 30) (oi := { dst := some 143, op := Go.Op.binOp Go.BinOp.add 57 (Go.Operand.tmp 139) (Go.Operand.tmp 142) 57, type := 57, pos := "ref.go:86", after := #[{ on := 26, ground := Go.Ground.data }, { on := 29, ground := Go.Ground.data }], guard := none }) (v := ?a_4_7_11v30) rfl (by kernel_rfl) (by kernel_rfl) (by kernel_rfl) (fun _ _ _ h => hPan _ _ _ _ _ h) (Or.inl ⟨by rfl, ?a_4_7_11y30⟩) (by assumption) ?a_4_7_11r30
      case a_4_7_11y30 => (intro w hSw; (try dsimp only at hSw); go_simp; try (with_reducible rfl))
      case a_4_7_11r30 =>
      try simp only [Act.put, List.setIfInBounds_toArray, List.set_cons_zero, List.set_cons_succ]
      refine wpAnyH_take (i := 34) (oi := { dst := some 147, op := Go.Op.binOp Go.BinOp.add 57 (Go.Operand.tmp 143) (Go.Operand.tmp 146) 57, type := 57, pos := "ref.go:86", after := #[{ on := 30, ground := Go.Ground.data }, { on := 33, ground := Go.Ground.data }], guard := none }) (v := ?a_4_7_11v34) rfl (by kernel_rfl) (by kernel_rfl) (by kernel_rfl) (fun _ _ _ h => hPan _ _ _ _ _ h) (Or.inl ⟨by rfl, ?a_4_7_11y34⟩) (by assumption) ?a_4_7_11r34
      case a_4_7_11y34 => (intro w hSw; (try dsimp only at hSw); go_simp; try (with_reducible rfl))
      case a_4_7_11r34 =>
      try simp only [Act.put, List.setIfInBounds_toArray, List.set_cons_zero, List.set_cons_succ]
      refine wpAnyH_take (i := 35) (oi := { dst := some 15, op := Go.Op.assign (Go.Operand.tmp 147), type := 57, pos := "ref.go:86", after := #[{ on := 34, ground := Go.Ground.data }, { on := 11, ground := Go.Ground.chain }, { on := 0, ground := Go.Ground.phase }, { on := 1, ground := Go.Ground.phase }, { on := 2, ground := Go.Ground.phase }, { on := 3, ground := Go.Ground.phase }, { on := 4, ground := Go.Ground.phase }, { on := 5, ground := Go.Ground.phase }, { on := 6, ground := Go.Ground.phase }, { on := 7, ground := Go.Ground.phase }, { on := 8, ground := Go.Ground.phase }, { on := 9, ground := Go.Ground.phase }, { on := 10, ground := Go.Ground.phase }, { on := 11, ground := Go.Ground.phase }, { on := 12, ground := Go.Ground.phase }, { on := 13, ground := Go.Ground.phase }, { on := 14, ground := Go.Ground.phase }, { on := 15, ground := Go.Ground.phase }, { on := 16, ground := Go.Ground.phase }, { on := 17, ground := Go.Ground.phase }, { on := 18, ground := Go.Ground.phase }, { on := 19, ground := Go.Ground.phase }, { on := 20, ground := Go.Ground.phase }, { on := 21, ground := Go.Ground.phase }, { on := 22, ground := Go.Ground.phase }, { on := 23, ground := Go.Ground.phase }, { on := 24, ground := Go.Ground.phase }, { on := 25, ground := Go.Ground.phase }, { on := 26, ground := Go.Ground.phase }, { on := 27, ground := Go.Ground.phase }, { on := 28, ground := Go.Ground.phase }, { on := 29, ground := Go.Ground.phase }, { on := 30, ground := Go.Ground.phase }, { on := 31, ground := Go.Ground.phase }, { on := 32, ground := Go.Ground.phase }, { on := 33, ground := Go.Ground.phase }, { on := 34, ground := Go.Ground.phase }], guard := none }) (v := ?a_4_7_11v35) rfl (by kernel_rfl) (by kernel_rfl) (by kernel_rfl) (fun _ _ _ h => hPan _ _ _ _ _ h) (Or.inl ⟨by rfl, ?a_4_7_11y35⟩) (by assumption) ?a_4_7_11r35
      case a_4_7_11y35 => (intro w hSw; (try dsimp only at hSw); go_simp; try (with_reducible rfl))
      case a_4_7_11r35 =>
      try simp only [Act.put, List.setIfInBounds_toArray, List.set_cons_zero, List.set_cons_succ]
      refine wpAnyH_done (by kernel_rfl) ?_ _
      obtain ⟨T1, hT1⟩ : ∃ z, z = add64 (add64 (add64 (add64 s.h (big1 s.e)) (ch64 s.e s.f s.g)) kk) x := ⟨_, rfl⟩
      have eT1 : IntKind.u64.wrap (IntKind.u64.wrap (IntKind.u64.wrap (IntKind.u64.wrap (s.h + bits .xor .u64 (bits .xor .u64 (rot64 50 s.e) (rot64 46 s.e)) (rot64 23 s.e)) + bits .xor .u64 (bits .and .u64 s.e s.f) (bits .and .u64 (bits .xor .u64 (if IntKind.u64.signed = true then -1 else IntKind.u64.max) s.e) s.g)) + kk) + x) = T1 := by
        rw [hT1]
        simp only [u64_wrap]
        rfl
      rw [eT1]
      have HT1 := Lib.hid hT1
      clear eT1 hT1
      generalize bits .xor .u64 (if IntKind.u64.signed = true then -1 else IntKind.u64.max) s.e = NE
      generalize bits .and .u64 NE s.g = NG
      generalize bits .and .u64 s.e s.f = EF
      generalize bits .xor .u64 EF NG = CH
      generalize bits .xor .u64 (rot64 50 s.e) (rot64 46 s.e) = B1
      generalize bits .xor .u64 B1 (rot64 23 s.e) = B2
      generalize IntKind.u64.wrap (s.h + B2) = A1
      generalize IntKind.u64.wrap (A1 + CH) = A2
      generalize IntKind.u64.wrap (A2 + kk) = A3
      obtain ⟨wd1, hwd1⟩ : ∃ z, z = wr.drew := ⟨_, rfl⟩
      rw [← hwd1]
      have o0 : wd1.cell? ⟨V, 0, none⟩ = some (.int .u64 s.a) := by rw [hwd1]; exact m0
      have o1 : wd1.cell? ⟨V, 1, none⟩ = some (.int .u64 s.b) := by rw [hwd1]; exact m1
      have o2 : wd1.cell? ⟨V, 2, none⟩ = some (.int .u64 s.c) := by rw [hwd1]; exact m2
      have HR1 := Lib.hid (show IRow wd1 V 90 .u64 s.list by rw [hwd1]; exact HROW.out)
      have HB1 := Lib.hid (show Below V w6 wd1 by rw [hwd1]; exact HBEL.out.drew)
      clear hwd1 hHeld m0 m1 m2 m3 m4 m5 m6 m7 kc wc HROW HBEL C1 C2 C3
      go_wp2_with fail
      refine wp_region_held_drew (S := (fun w' => w'.cell? ⟨V, 0, none⟩ = some (.int .u64 s.a) ∧ w'.cell? ⟨V, 1, none⟩ = some (.int .u64 s.b) ∧ w'.cell? ⟨V, 2, none⟩ = some (.int .u64 s.c))) (by kernel_rfl) ?_ (fun hHeld => ?_)
      · exact ⟨o0, o1, o2⟩
      refine wpAnyH_take (i := 0) (oi := { dst := some 148, op := Go.Op.indexAddr 90 (Go.Operand.tmp 13) (Go.Operand.const (Go.Value.int Go.IntKind.i64 0)), type := 0, pos := "ref.go:87", after := #[], guard := none }) (v := ?bv0) rfl (by kernel_rfl) (by kernel_rfl) (by kernel_rfl) (fun _ _ _ h => hPan _ _ _ _ _ h) (Or.inl ⟨by rfl, ?by0⟩) (by assumption) ?br0
      case by0 => (intro w hSw; (try dsimp only at hSw); go_simp; try (with_reducible rfl))
      case br0 =>
      try simp only [Act.put, List.setIfInBounds_toArray, List.set_cons_zero, List.set_cons_succ]
      refine wpAnyH_take (i := 1) (oi := { dst := some 149, op := Go.Op.load 57 (Go.Operand.tmp 148), type := 57, pos := "ref.go:87", after := #[{ on := 0, ground := Go.Ground.data }], guard := none }) (v := ?bv1) rfl (by kernel_rfl) (by kernel_rfl) (by kernel_rfl) (fun _ _ _ h => hPan _ _ _ _ _ h) (Or.inl ⟨by rfl, ?by1⟩) (by assumption) ?br1
      case by1 => (intro w hSw; (try dsimp only at hSw); go_simp; try (with_reducible rfl))
      case br1 =>
      try simp only [Act.put, List.setIfInBounds_toArray, List.set_cons_zero, List.set_cons_succ]
      refine wpAnyH_take (i := 3) (oi := { dst := some 151, op := Go.Op.indexAddr 90 (Go.Operand.tmp 13) (Go.Operand.const (Go.Value.int Go.IntKind.i64 0)), type := 0, pos := "ref.go:87", after := #[], guard := none }) (v := ?bv3) rfl (by kernel_rfl) (by kernel_rfl) (by kernel_rfl) (fun _ _ _ h => hPan _ _ _ _ _ h) (Or.inl ⟨by rfl, ?by3⟩) (by assumption) ?br3
      case by3 => (intro w hSw; (try dsimp only at hSw); go_simp; try (with_reducible rfl))
      case br3 =>
      try simp only [Act.put, List.setIfInBounds_toArray, List.set_cons_zero, List.set_cons_succ]
      refine wpAnyH_take (i := 4) (oi := { dst := some 152, op := Go.Op.load 57 (Go.Operand.tmp 151), type := 57, pos := "ref.go:87", after := #[{ on := 3, ground := Go.Ground.data }], guard := none }) (v := ?bv4) rfl (by kernel_rfl) (by kernel_rfl) (by kernel_rfl) (fun _ _ _ h => hPan _ _ _ _ _ h) (Or.inl ⟨by rfl, ?by4⟩) (by assumption) ?br4
      case by4 => (intro w hSw; (try dsimp only at hSw); go_simp; try (with_reducible rfl))
      case br4 =>
      try simp only [Act.put, List.setIfInBounds_toArray, List.set_cons_zero, List.set_cons_succ]
      refine wpAnyH_take (i := 7) (oi := { dst := some 155, op := Go.Op.indexAddr 90 (Go.Operand.tmp 13) (Go.Operand.const (Go.Value.int Go.IntKind.i64 0)), type := 0, pos := "ref.go:87", after := #[], guard := none }) (v := ?bv7) rfl (by kernel_rfl) (by kernel_rfl) (by kernel_rfl) (fun _ _ _ h => hPan _ _ _ _ _ h) (Or.inl ⟨by rfl, ?by7⟩) (by assumption) ?br7
      case by7 => (intro w hSw; (try dsimp only at hSw); go_simp; try (with_reducible rfl))
      case br7 =>
      try simp only [Act.put, List.setIfInBounds_toArray, List.set_cons_zero, List.set_cons_succ]
      refine wpAnyH_take (i := 8) (oi := { dst := some 156, op := Go.Op.load 57 (Go.Operand.tmp 155), type := 57, pos := "ref.go:87", after := #[{ on := 7, ground := Go.Ground.data }], guard := none }) (v := ?bv8) rfl (by kernel_rfl) (by kernel_rfl) (by kernel_rfl) (fun _ _ _ h => hPan _ _ _ _ _ h) (Or.inl ⟨by rfl, ?by8⟩) (by assumption) ?br8
      case by8 => (intro w hSw; (try dsimp only at hSw); go_simp; try (with_reducible rfl))
      case br8 =>
      try simp only [Act.put, List.setIfInBounds_toArray, List.set_cons_zero, List.set_cons_succ]
      refine wpAnyH_take (i := 11) (oi := { dst := some 159, op := Go.Op.indexAddr 90 (Go.Operand.tmp 13) (Go.Operand.const (Go.Value.int Go.IntKind.i64 0)), type := 0, pos := "ref.go:87", after := #[], guard := none }) (v := ?bv11) rfl (by kernel_rfl) (by kernel_rfl) (by kernel_rfl) (fun _ _ _ h => hPan _ _ _ _ _ h) (Or.inl ⟨by rfl, ?by11⟩) (by assumption) ?br11
      case by11 => (intro w hSw; (try dsimp only at hSw); go_simp; try (with_reducible rfl))
      case br11 =>
      try simp only [Act.put, List.setIfInBounds_toArray, List.set_cons_zero, List.set_cons_succ]
      refine wpAnyH_take (i := 12) (oi := { dst := some 160, op := Go.Op.load 57 (Go.Operand.tmp 159), type := 57, pos := "ref.go:87", after := #[{ on := 11, ground := Go.Ground.data }], guard := none }) (v := ?bv12) rfl (by kernel_rfl) (by kernel_rfl) (by kernel_rfl) (fun _ _ _ h => hPan _ _ _ _ _ h) (Or.inl ⟨by rfl, ?by12⟩) (by assumption) ?br12
      case by12 => (intro w hSw; (try dsimp only at hSw); go_simp; try (with_reducible rfl))
      case br12 =>
      try simp only [Act.put, List.setIfInBounds_toArray, List.set_cons_zero, List.set_cons_succ]
      refine wpAnyH_take (i := 13) (oi := { dst := some 161, op := Go.Op.indexAddr 90 (Go.Operand.tmp 13) (Go.Operand.const (Go.Value.int Go.IntKind.i64 1)), type := 0, pos := "ref.go:87", after := #[], guard := none }) (v := ?bv13) rfl (by kernel_rfl) (by kernel_rfl) (by kernel_rfl) (fun _ _ _ h => hPan _ _ _ _ _ h) (Or.inl ⟨by rfl, ?by13⟩) (by assumption) ?br13
      case by13 => (intro w hSw; (try dsimp only at hSw); go_simp; try (with_reducible rfl))
      case br13 =>
      try simp only [Act.put, List.setIfInBounds_toArray, List.set_cons_zero, List.set_cons_succ]
      refine wpAnyH_take (i := 14) (oi := { dst := some 162, op := Go.Op.load 57 (Go.Operand.tmp 161), type := 57, pos := "ref.go:87", after := #[{ on := 13, ground := Go.Ground.data }], guard := none }) (v := ?bv14) rfl (by kernel_rfl) (by kernel_rfl) (by kernel_rfl) (fun _ _ _ h => hPan _ _ _ _ _ h) (Or.inl ⟨by rfl, ?by14⟩) (by assumption) ?br14
      case by14 => (intro w hSw; (try dsimp only at hSw); go_simp; try (with_reducible rfl))
      case br14 =>
      try simp only [Act.put, List.setIfInBounds_toArray, List.set_cons_zero, List.set_cons_succ]
      refine wpAnyH_take (i := 15) (oi := { dst := some 163, op := Go.Op.binOp Go.BinOp.and 57 (Go.Operand.tmp 160) (Go.Operand.tmp 162) 57, type := 57, pos := "ref.go:87", after := #[{ on := 12, ground := Go.Ground.data }, { on := 14, ground := Go.Ground.data }], guard := none }) (v := ?bv15) rfl (by kernel_rfl) (by kernel_rfl) (by kernel_rfl) (fun _ _ _ h => hPan _ _ _ _ _ h) (Or.inl ⟨by rfl, ?by15⟩) (by assumption) ?br15
      case by15 => (intro w hSw; (try dsimp only at hSw); go_simp; try (with_reducible rfl))
      case br15 =>
      try simp only [Act.put, List.setIfInBounds_toArray, List.set_cons_zero, List.set_cons_succ]
      refine wpAnyH_take (i := 16) (oi := { dst := some 164, op := Go.Op.indexAddr 90 (Go.Operand.tmp 13) (Go.Operand.const (Go.Value.int Go.IntKind.i64 0)), type := 0, pos := "ref.go:87", after := #[], guard := none }) (v := ?bv16) rfl (by kernel_rfl) (by kernel_rfl) (by kernel_rfl) (fun _ _ _ h => hPan _ _ _ _ _ h) (Or.inl ⟨by rfl, ?by16⟩) (by assumption) ?br16
      case by16 => (intro w hSw; (try dsimp only at hSw); go_simp; try (with_reducible rfl))
      case br16 =>
      try simp only [Act.put, List.setIfInBounds_toArray, List.set_cons_zero, List.set_cons_succ]
      refine wpAnyH_take (i := 17) (oi := { dst := some 165, op := Go.Op.load 57 (Go.Operand.tmp 164), type := 57, pos := "ref.go:87", after := #[{ on := 16, ground := Go.Ground.data }], guard := none }) (v := ?bv17) rfl (by kernel_rfl) (by kernel_rfl) (by kernel_rfl) (fun _ _ _ h => hPan _ _ _ _ _ h) (Or.inl ⟨by rfl, ?by17⟩) (by assumption) ?br17
      case by17 => (intro w hSw; (try dsimp only at hSw); go_simp; try (with_reducible rfl))
      case br17 =>
      try simp only [Act.put, List.setIfInBounds_toArray, List.set_cons_zero, List.set_cons_succ]
      refine wpAnyH_take (i := 18) (oi := { dst := some 166, op := Go.Op.indexAddr 90 (Go.Operand.tmp 13) (Go.Operand.const (Go.Value.int Go.IntKind.i64 2)), type := 0, pos := "ref.go:87", after := #[], guard := none }) (v := ?bv18) rfl (by kernel_rfl) (by kernel_rfl) (by kernel_rfl) (fun _ _ _ h => hPan _ _ _ _ _ h) (Or.inl ⟨by rfl, ?by18⟩) (by assumption) ?br18
      case by18 => (intro w hSw; (try dsimp only at hSw); go_simp; try (with_reducible rfl))
      case br18 =>
      try simp only [Act.put, List.setIfInBounds_toArray, List.set_cons_zero, List.set_cons_succ]
      refine wpAnyH_take (i := 19) (oi := { dst := some 167, op := Go.Op.load 57 (Go.Operand.tmp 166), type := 57, pos := "ref.go:87", after := #[{ on := 18, ground := Go.Ground.data }], guard := none }) (v := ?bv19) rfl (by kernel_rfl) (by kernel_rfl) (by kernel_rfl) (fun _ _ _ h => hPan _ _ _ _ _ h) (Or.inl ⟨by rfl, ?by19⟩) (by assumption) ?br19
      case by19 => (intro w hSw; (try dsimp only at hSw); go_simp; try (with_reducible rfl))
      case br19 =>
      try simp only [Act.put, List.setIfInBounds_toArray, List.set_cons_zero, List.set_cons_succ]
      refine wpAnyH_take (i := 20) (oi := { dst := some 168, op := Go.Op.binOp Go.BinOp.and 57 (Go.Operand.tmp 165) (Go.Operand.tmp 167) 57, type := 57, pos := "ref.go:87", after := #[{ on := 17, ground := Go.Ground.data }, { on := 19, ground := Go.Ground.data }], guard := none }) (v := ?bv20) rfl (by kernel_rfl) (by kernel_rfl) (by kernel_rfl) (fun _ _ _ h => hPan _ _ _ _ _ h) (Or.inl ⟨by rfl, ?by20⟩) (by assumption) ?br20
      case by20 => (intro w hSw; (try dsimp only at hSw); go_simp; try (with_reducible rfl))
      case br20 =>
      try simp only [Act.put, List.setIfInBounds_toArray, List.set_cons_zero, List.set_cons_succ]
      refine wpAnyH_take (i := 21) (oi := { dst := some 169, op := Go.Op.binOp Go.BinOp.xor 57 (Go.Operand.tmp 163) (Go.Operand.tmp 168) 57, type := 57, pos := "ref.go:87", after := #[{ on := 15, ground := Go.Ground.data }, { on := 20, ground := Go.Ground.data }], guard := none }) (v := ?bv21) rfl (by kernel_rfl) (by kernel_rfl) (by kernel_rfl) (fun _ _ _ h => hPan _ _ _ _ _ h) (Or.inl ⟨by rfl, ?by21⟩) (by assumption) ?br21
      case by21 => (intro w hSw; (try dsimp only at hSw); go_simp; try (with_reducible rfl))
      case br21 =>
      try simp only [Act.put, List.setIfInBounds_toArray, List.set_cons_zero, List.set_cons_succ]
      refine wpAnyH_take (i := 22) (oi := { dst := some 170, op := Go.Op.indexAddr 90 (Go.Operand.tmp 13) (Go.Operand.const (Go.Value.int Go.IntKind.i64 1)), type := 0, pos := "ref.go:87", after := #[], guard := none }) (v := ?bv22) rfl (by kernel_rfl) (by kernel_rfl) (by kernel_rfl) (fun _ _ _ h => hPan _ _ _ _ _ h) (Or.inl ⟨by rfl, ?by22⟩) (by assumption) ?br22
      case by22 => (intro w hSw; (try dsimp only at hSw); go_simp; try (with_reducible rfl))
      case br22 =>
      try simp only [Act.put, List.setIfInBounds_toArray, List.set_cons_zero, List.set_cons_succ]
      refine wpAnyH_take (i := 23) (oi := { dst := some 171, op := Go.Op.load 57 (Go.Operand.tmp 170), type := 57, pos := "ref.go:87", after := #[{ on := 22, ground := Go.Ground.data }], guard := none }) (v := ?bv23) rfl (by kernel_rfl) (by kernel_rfl) (by kernel_rfl) (fun _ _ _ h => hPan _ _ _ _ _ h) (Or.inl ⟨by rfl, ?by23⟩) (by assumption) ?br23
      case by23 => (intro w hSw; (try dsimp only at hSw); go_simp; try (with_reducible rfl))
      case br23 =>
      try simp only [Act.put, List.setIfInBounds_toArray, List.set_cons_zero, List.set_cons_succ]
      refine wpAnyH_take (i := 24) (oi := { dst := some 172, op := Go.Op.indexAddr 90 (Go.Operand.tmp 13) (Go.Operand.const (Go.Value.int Go.IntKind.i64 2)), type := 0, pos := "ref.go:87", after := #[], guard := none }) (v := ?bv24) rfl (by kernel_rfl) (by kernel_rfl) (by kernel_rfl) (fun _ _ _ h => hPan _ _ _ _ _ h) (Or.inl ⟨by rfl, ?by24⟩) (by assumption) ?br24
      case by24 => (intro w hSw; (try dsimp only at hSw); go_simp; try (with_reducible rfl))
      case br24 =>
      try simp only [Act.put, List.setIfInBounds_toArray, List.set_cons_zero, List.set_cons_succ]
      refine wpAnyH_take (i := 25) (oi := { dst := some 173, op := Go.Op.load 57 (Go.Operand.tmp 172), type := 57, pos := "ref.go:87", after := #[{ on := 24, ground := Go.Ground.data }], guard := none }) (v := ?bv25) rfl (by kernel_rfl) (by kernel_rfl) (by kernel_rfl) (fun _ _ _ h => hPan _ _ _ _ _ h) (Or.inl ⟨by rfl, ?by25⟩) (by assumption) ?br25
      case by25 => (intro w hSw; (try dsimp only at hSw); go_simp; try (with_reducible rfl))
      case br25 =>
      try simp only [Act.put, List.setIfInBounds_toArray, List.set_cons_zero, List.set_cons_succ]
      refine wpAnyH_take (i := 26) (oi := { dst := some 174, op := Go.Op.binOp Go.BinOp.and 57 (Go.Operand.tmp 171) (Go.Operand.tmp 173) 57, type := 57, pos := "ref.go:87", after := #[{ on := 23, ground := Go.Ground.data }, { on := 25, ground := Go.Ground.data }], guard := none }) (v := ?bv26) rfl (by kernel_rfl) (by kernel_rfl) (by kernel_rfl) (fun _ _ _ h => hPan _ _ _ _ _ h) (Or.inl ⟨by rfl, ?by26⟩) (by assumption) ?br26
      case by26 => (intro w hSw; (try dsimp only at hSw); go_simp; try (with_reducible rfl))
      case br26 =>
      try simp only [Act.put, List.setIfInBounds_toArray, List.set_cons_zero, List.set_cons_succ]
      refine wpAnyH_take (i := 27) (oi := { dst := some 175, op := Go.Op.binOp Go.BinOp.xor 57 (Go.Operand.tmp 169) (Go.Operand.tmp 174) 57, type := 57, pos := "ref.go:87", after := #[{ on := 21, ground := Go.Ground.data }, { on := 26, ground := Go.Ground.data }], guard := none }) (v := ?bv27) rfl (by kernel_rfl) (by kernel_rfl) (by kernel_rfl) (fun _ _ _ h => hPan _ _ _ _ _ h) (Or.inl ⟨by rfl, ?by27⟩) (by assumption) ?br27
      case by27 => (intro w hSw; (try dsimp only at hSw); go_simp; try (with_reducible rfl))
      case br27 =>
      try simp only [Act.put, List.setIfInBounds_toArray, List.set_cons_zero, List.set_cons_succ]
      refine wpAnyH_ready (rs := [2]) (by kernel_rfl) (by simp) ?_
      refine AllReadyH.cons (o := { dst := some 150, op := Go.Op.call { callee := Go.Callee.value (Go.Operand.func 49), args := #[Go.Operand.tmp 149, Go.Operand.const (Go.Value.int Go.IntKind.i64 28)], argTypes := #[57, 3] }, type := 57, pos := "ref.go:87", after := #[{ on := 1, ground := Go.Ground.data }], guard := none }) rfl (fun K hK => ?_) (AllReadyH.nil)
      go_simp
      refine (C4.out _).mono ?_
      rintro e w7 ⟨rfl, rfl⟩
      go_simp
      refine hK.out _ _ ?_ (fun hHeld => ?_)
      · exact hHeld
      clear hK K
      try simp only [Act.put, List.setIfInBounds_toArray, List.set_cons_zero, List.set_cons_succ]
      refine wpAnyH_ready (rs := [5]) (by kernel_rfl) (by simp) ?_
      refine AllReadyH.cons (o := { dst := some 153, op := Go.Op.call { callee := Go.Callee.value (Go.Operand.func 49), args := #[Go.Operand.tmp 152, Go.Operand.const (Go.Value.int Go.IntKind.i64 34)], argTypes := #[57, 3] }, type := 57, pos := "ref.go:87", after := #[{ on := 4, ground := Go.Ground.data }, { on := 2, ground := Go.Ground.chain }], guard := none }) rfl (fun K hK => ?_) (AllReadyH.nil)
      go_simp
      refine (C5.out _).mono ?_
      rintro e w7 ⟨rfl, rfl⟩
      go_simp
      refine hK.out _ _ ?_ (fun hHeld => ?_)
      · exact hHeld
      clear hK K
      try simp only [Act.put, List.setIfInBounds_toArray, List.set_cons_zero, List.set_cons_succ]
      refine wpAnyH_take (i := 6) (oi := { dst := some 154, op := Go.Op.binOp Go.BinOp.xor 57 (Go.Operand.tmp 150) (Go.Operand.tmp 153) 57, type := 57, pos := "ref.go:87", after := #[{ on := 2, ground := Go.Ground.data }, { on := 5, ground := Go.Ground.data }], guard := none }) (v := ?b_2_5v6) rfl (by kernel_rfl) (by kernel_rfl) (by kernel_rfl) (fun _ _ _ h => hPan _ _ _ _ _ h) (Or.inl ⟨by rfl, ?b_2_5y6⟩) (by assumption) ?b_2_5r6
      case b_2_5y6 => (intro w hSw; (try dsimp only at hSw); go_simp; try (with_reducible rfl))
      case b_2_5r6 =>
      try simp only [Act.put, List.setIfInBounds_toArray, List.set_cons_zero, List.set_cons_succ]
      refine wpAnyH_ready (rs := [9]) (by kernel_rfl) (by simp) ?_
      refine AllReadyH.cons (o := { dst := some 157, op := Go.Op.call { callee := Go.Callee.value (Go.Operand.func 49), args := #[Go.Operand.tmp 156, Go.Operand.const (Go.Value.int Go.IntKind.i64 39)], argTypes := #[57, 3] }, type := 57, pos := "ref.go:87", after := #[{ on := 8, ground := Go.Ground.data }, { on := 5, ground := Go.Ground.chain }], guard := none }) rfl (fun K hK => ?_) (AllReadyH.nil)
      go_simp
      refine (C6.out _).mono ?_
      rintro e w7 ⟨rfl, rfl⟩
      go_simp
      refine hK.out _ _ ?_ (fun hHeld => ?_)
      · exact hHeld
      clear hK K
      try simp only [Act.put, List.setIfInBounds_toArray, List.set_cons_zero, List.set_cons_succ]
      refine wpAnyH_take (i := 10) (oi := { dst := some 158, op := Go.Op.binOp Go.BinOp.xor 57 (Go.Operand.tmp 154) (Go.Operand.tmp 157) 57, type := 57, pos := "ref.go:87", after := #[{ on := 6, ground := Go.Ground.data }, { on := 9, ground := Go.Ground.data }], guard := none }) (v := ?b_2_5_9v10) rfl (by kernel_rfl) (by kernel_rfl) (by kernel_rfl) (fun _ _ _ h => hPan _ _ _ _ _ h) (Or.inl ⟨by rfl, ?b_2_5_9y10⟩) (by assumption) ?b_2_5_9r10
      case b_2_5_9y10 => (intro w hSw; (try dsimp only at hSw); go_simp; try (with_reducible rfl))
      case b_2_5_9r10 =>
      try simp only [Act.put, List.setIfInBounds_toArray, List.set_cons_zero, List.set_cons_succ]
      refine wpAnyH_take (i := 28) (oi := { dst := some 176, op := Go.Op.binOp Go.BinOp.add 57 (Go.Operand.tmp 158) (Go.Operand.tmp 175) 57, type := 57, pos := "ref.go:87", after := #[{ on := 10, ground := Go.Ground.data }, { on := 27, ground := Go.Ground.data }], guard := none }) (v := ?b_2_5_9v28) rfl (by kernel_rfl) (by kernel_rfl) (by kernel_rfl) (fun _ _ _ h => hPan _ _ _ _ _ h) (Or.inl ⟨by rfl, ?b_2_5_9y28⟩) (by assumption) ?b_2_5_9r28
      case b_2_5_9y28 => (intro w hSw; (try dsimp only at hSw); go_simp; try (with_reducible rfl))
      case b_2_5_9r28 =>
      try simp only [Act.put, List.setIfInBounds_toArray, List.set_cons_zero, List.set_cons_succ]
      refine wpAnyH_take (i := 29) (oi := { dst := some 16, op := Go.Op.assign (Go.Operand.tmp 176), type := 57, pos := "ref.go:87", after := #[{ on := 28, ground := Go.Ground.data }, { on := 9, ground := Go.Ground.chain }, { on := 0, ground := Go.Ground.phase }, { on := 1, ground := Go.Ground.phase }, { on := 2, ground := Go.Ground.phase }, { on := 3, ground := Go.Ground.phase }, { on := 4, ground := Go.Ground.phase }, { on := 5, ground := Go.Ground.phase }, { on := 6, ground := Go.Ground.phase }, { on := 7, ground := Go.Ground.phase }, { on := 8, ground := Go.Ground.phase }, { on := 9, ground := Go.Ground.phase }, { on := 10, ground := Go.Ground.phase }, { on := 11, ground := Go.Ground.phase }, { on := 12, ground := Go.Ground.phase }, { on := 13, ground := Go.Ground.phase }, { on := 14, ground := Go.Ground.phase }, { on := 15, ground := Go.Ground.phase }, { on := 16, ground := Go.Ground.phase }, { on := 17, ground := Go.Ground.phase }, { on := 18, ground := Go.Ground.phase }, { on := 19, ground := Go.Ground.phase }, { on := 20, ground := Go.Ground.phase }, { on := 21, ground := Go.Ground.phase }, { on := 22, ground := Go.Ground.phase }, { on := 23, ground := Go.Ground.phase }, { on := 24, ground := Go.Ground.phase }, { on := 25, ground := Go.Ground.phase }, { on := 26, ground := Go.Ground.phase }, { on := 27, ground := Go.Ground.phase }, { on := 28, ground := Go.Ground.phase }], guard := none }) (v := ?b_2_5_9v29) rfl (by kernel_rfl) (by kernel_rfl) (by kernel_rfl) (fun _ _ _ h => hPan _ _ _ _ _ h) (Or.inl ⟨by rfl, ?b_2_5_9y29⟩) (by assumption) ?b_2_5_9r29
      case b_2_5_9y29 => (intro w hSw; (try dsimp only at hSw); go_simp; try (with_reducible rfl))
      case b_2_5_9r29 =>
      try simp only [Act.put, List.setIfInBounds_toArray, List.set_cons_zero, List.set_cons_succ]
      refine wpAnyH_done (by kernel_rfl) ?_ _
      obtain ⟨T2, hT2⟩ : ∃ z, z = add64 (big0 s.a) (maj64 s.a s.b s.c) := ⟨_, rfl⟩
      have eT2 : IntKind.u64.wrap (bits .xor .u64 (bits .xor .u64 (rot64 36 s.a) (rot64 30 s.a)) (rot64 25 s.a) + bits .xor .u64 (bits .xor .u64 (bits .and .u64 s.a s.b) (bits .and .u64 s.a s.c)) (bits .and .u64 s.b s.c)) = T2 := by
        rw [hT2]
        simp only [u64_wrap]
        rfl
      rw [eT2]
      have HT2 := Lib.hid hT2
      clear eT2 hT2
      generalize bits .xor .u64 (rot64 36 s.a) (rot64 30 s.a) = B3
      generalize bits .xor .u64 B3 (rot64 25 s.a) = B4
      generalize bits .and .u64 s.a s.b = M1
      generalize bits .and .u64 s.a s.c = M2
      generalize bits .and .u64 s.b s.c = M3
      generalize bits .xor .u64 M1 M2 = M4
      generalize bits .xor .u64 M4 M3 = M5
      obtain ⟨wd, hwd⟩ : ∃ z, z = wd1.drew := ⟨_, rfl⟩
      rw [← hwd]
      have hr2 : IRow wd V 90 .u64 s.list := by rw [hwd]; exact HR1.out
      have n0 := hr2.cell (i := 0) rfl
      have n1 := hr2.cell (i := 1) rfl
      have n2 := hr2.cell (i := 2) rfl
      have n3 := hr2.cell (i := 3) rfl
      have n4 := hr2.cell (i := 4) rfl
      have n5 := hr2.cell (i := 5) rfl
      have n6 := hr2.cell (i := 6) rfl
      have HR2 := Lib.hid hr2
      have HB2 := Lib.hid (show Below V w6 wd by rw [hwd]; exact HB1.out.drew)
      clear hwd hHeld hr2 o0 o1 o2 HR1 HB1 C4 C5 C6
      go_wp2_with (refine wpList_store_irow rfl 90 (.tmp 13) (.tmp 196) rfl (g := V) (t := 90) (k := .u64) (xs := s.list) (ys := [(T1 + T2) % 18446744073709551616, s.a, s.b, s.c, (s.d + T1) % 18446744073709551616, s.e, s.f, s.g]) rfl rfl HR2.out info_8 rfl ?_)
      have er : (rnd kk x s).list = [(T1 + T2) % 18446744073709551616, s.a, s.b, s.c, (s.d + T1) % 18446744073709551616, s.e, s.f, s.g] := by rw [HT1.out, HT2.out]; rfl
      refine ⟨⟨t + 1, rnd kk x s, by omega, Lib.hid ?_, by go_num, ?_, ?_⟩, by simp [intOf]; omega⟩
      · rw [rounds, ← hst.out, List.getD_eq_getElem?_getD, HK.out, List.getD_eq_getElem?_getD, HX.out]
        rfl
      · rw [er]
        exact setRow_irow (ys := [(T1 + T2) % 18446744073709551616, s.a, s.b, s.c, (s.d + T1) % 18446744073709551616, s.e, s.f, s.g]) HR2.out
      · exact below_setRow HB2.out (Nat.le_refl _) _
    · obtain rfl : t = 80 := by omega
      have e64 : ((80 : Nat) : Int) = 80 := rfl
      rw [e64]
      have HR := Lib.hid (show IRow wr V 90 .u64 (rounds k512 (W80 bs) 80 s0).list by rw [← hst.out]; exact hrow)
      have HBEL := Lib.hid hbel
      clear hrow hbel hst e64 h64 ht
      go_wp2_with fail
      exact HQ.out _ _ _ _ _ _ _ _ _ _ _ _ _ _ _ _ _ _ _ _ _ _ _ _ _ _ _ _ _ _ _ _ _ _ _ _ _ _ _ _ _ _ _ _ _ _ _ _ _ _ _ _ _ _ _ _ _ _ _ _ _ _ _ _ _ _ _ _ _ _ _ _ _ _ _ _ _ _ _ _ _ _ _ _ _ _ _ _ _ _ _ _ HR.out HBEL.out
end Go.Proofs.YtfkpdbmgiefnfaaDoor.S5

/-
  The reference's Sum512: what a block adds to the words; and the words as bytes. Conditions: none.
-/
namespace Go.Proofs.YtfkpdbmgiefnfaaDoor.S5
open Go.RowKit

set_option maxRecDepth 1000000 in
set_option maxHeartbeats 6400000 in
theorem rb10_any {Q : Exit → Act → World → Prop} (BH V : Nat) (s v : S8) (w7 : World) (hne : V ≠ BH) (rH : IRow w7 BH 90 .u64 s.list) (rV : IRow w7 V 90 .u64 v.list) (u0 u1 u2 u3 u5 u6 u7 u8 u9 u10 u11 u12 u14 u15 u16 u18 u19 u20 u21 u22 u23 u24 u25 u26 u27 u28 u29 u30 u31 u32 u33 u34 u35 u36 u37 u38 u39 u40 u41 u42 u43 u44 u45 u46 u47 u48 u49 u50 u51 u52 u53 u54 u55 u56 u57 u58 u59 u60 u61 u62 u63 u64 u65 u66 u67 u68 u69 u70 u71 u72 u73 u74 u75 u76 u77 u78 u79 u80 u81 u82 u83 u84 u85 u86 u87 u88 u89 u90 u91 u92 u93 u94 u95 u96 u97 u98 u99 u100 u101 u102 u103 u104 u105 u106 u107 u108 u109 u110 u111 u112 u113 u114 u115 u116 u117 u118 u119 u120 u121 u122 u123 u124 u125 u126 u127 u128 u129 u130 u131 u132 u133 u134 u135 u136 u137 u138 u139 u140 u141 u142 u143 u144 u145 u146 u147 u148 u149 u150 u151 u152 u153 u154 u155 u156 u157 u158 u159 u160 u161 u162 u163 u164 u165 u166 u167 u168 u169 u170 u171 u172 u173 u174 u175 u176 u177 u178 u179 u180 u181 u182 u183 u184 u185 u186 u187 u188 u189 u190 u191 u192 u193 u194 u195 u196 u197 u198 u199 u200 u201 u202 u203 u204 u205 u206 u207 u208 u209 u210 u211 u212 u213 u214 u215 u216 u217 u218 u219 u220 u221 u222 u223 u224 u225 u226 u227 : Value)
    (hPan : ∀ (c : List PanicEntry) (a : Act) (d : Tmp) (v : Value) (w : World), Q (.panic c) (a.put (some d) v) w → Q (.panic c) a w)
    (hQ : ∀ (v17 v197 v198 v199 v200 v201 v202 v203 v204 v205 v206 v207 v208 v209 : Value) (w' : World), IRow w' BH 90 .u64 (mix s.list v.list 8) → Turns (· = BH) w7 w' → Q .normal ⟨#[u0, u1, u2, u3, .pointer (some ⟨BH, 0, none⟩), u5, u6, u7, u8, u9, u10, u11, u12, .pointer (some ⟨V, 0, none⟩), u14, u15, u16, v17, u18, u19, u20, u21, u22, u23, u24, u25, u26, u27, u28, u29, u30, u31, u32, u33, u34, u35, u36, u37, u38, u39, u40, u41, u42, u43, u44, u45, u46, u47, u48, u49, u50, u51, u52, u53, u54, u55, u56, u57, u58, u59, u60, u61, u62, u63, u64, u65, u66, u67, u68, u69, u70, u71, u72, u73, u74, u75, u76, u77, u78, u79, u80, u81, u82, u83, u84, u85, u86, u87, u88, u89, u90, u91, u92, u93, u94, u95, u96, u97, u98, u99, u100, u101, u102, u103, u104, u105, u106, u107, u108, u109, u110, u111, u112, u113, u114, u115, u116, u117, u118, u119, u120, u121, u122, u123, u124, u125, u126, u127, u128, u129, u130, u131, u132, u133, u134, u135, u136, u137, u138, u139, u140, u141, u142, u143, u144, u145, u146, u147, u148, u149, u150, u151, u152, u153, u154, u155, u156, u157, u158, u159, u160, u161, u162, u163, u164, u165, u166, u167, u168, u169, u170, u171, u172, u173, u174, u175, u176, u177, u178, u179, u180, u181, u182, u183, u184, u185, u186, u187, u188, u189, u190, u191, u192, u193, u194, u195, u196, v197, v198, v199, v200, v201, v202, v203, v204, v205, v206, v207, v208, v209, u210, u211, u212, u213, u214, u215, u216, u217, u218, u219, u220, u221, u222, u223, u224, u225, u226, u227], []⟩ w') :
    Code.wp Tryd.prog (blkOf 10 Tryd.f31) Q ⟨#[u0, u1, u2, u3, .pointer (some ⟨BH, 0, none⟩), u5, u6, u7, u8, u9, u10, u11, u12, .pointer (some ⟨V, 0, none⟩), u14, u15, u16, .int .i64 0, u18, u19, u20, u21, u22, u23, u24, u25, u26, u27, u28, u29, u30, u31, u32, u33, u34, u35, u36, u37, u38, u39, u40, u41, u42, u43, u44, u45, u46, u47, u48, u49, u50, u51, u52, u53, u54, u55, u56, u57, u58, u59, u60, u61, u62, u63, u64, u65, u66, u67, u68, u69, u70, u71, u72, u73, u74, u75, u76, u77, u78, u79, u80, u81, u82, u83, u84, u85, u86, u87, u88, u89, u90, u91, u92, u93, u94, u95, u96, u97, u98, u99, u100, u101, u102, u103, u104, u105, u106, u107, u108, u109, u110, u111, u112, u113, u114, u115, u116, u117, u118, u119, u120, u121, u122, u123, u124, u125, u126, u127, u128, u129, u130, u131, u132, u133, u134, u135, u136, u137, u138, u139, u140, u141, u142, u143, u144, u145, u146, u147, u148, u149, u150, u151, u152, u153, u154, u155, u156, u157, u158, u159, u160, u161, u162, u163, u164, u165, u166, u167, u168, u169, u170, u171, u172, u173, u174, u175, u176, u177, u178, u179, u180, u181, u182, u183, u184, u185, u186, u187, u188, u189, u190, u191, u192, u193, u194, u195, u196, u197, u198, u199, u200, u201, u202, u203, u204, u205, u206, u207, u208, u209, u210, u211, u212, u213, u214, u215, u216, u217, u218, u219, u220, u221, u222, u223, u224, u225, u226, u227], []⟩ w7 := by
  conv => arg 2; whnf
  have HQ := Lib.hid hQ
  have RH := Lib.hid rH
  have RV := Lib.hid rV
  clear hQ rH rV
  go_wp2_with fail
  go_loopw [17] (fun v17 wr => ∃ i : Nat, i ≤ 8 ∧ v17 = .int .i64 (i : Int) ∧ IRow wr BH 90 .u64 (mix s.list v.list i) ∧ Turns (· = BH) w7 wr) (fun v17 _ => 8 - (intOf v17).toNat)
  case atStart => exact ⟨0, by omega, rfl, RH.out, Turns.refl _ _⟩
  case round =>
    obtain ⟨i, hi, rfl, hrow, htt⟩ := hrel
    by_cases h8 : i < 8
    · obtain ⟨l, hl⟩ : ∃ l, l = s.list.getD i 0 := ⟨_, rfl⟩
      obtain ⟨z, hz⟩ : ∃ z, v.list[i]? = some z := ⟨_, List.getElem?_eq_getElem (by have : v.list.length = 8 := rfl; omega)⟩
      have hat := hrow.cell (mix_at s.list v.list h8)
      rw [← hl] at hat
      have hcv : wr.cell? ⟨V, i, none⟩ = some (.int .u64 z) := (RV.out.turns htt hne).cell hz
      have hset := hrow.set i (add64 (s.list.getD i 0) (v.list.getD i 0))
      have hzd : v.list.getD i 0 = z := by rw [List.getD_eq_getElem?_getD, hz]; rfl
      rw [mix_next _ _ h8, hzd, ← hl] at hset
      have hfr := hrow.free i
      have b8 : (i : Int) < 8 := by omega
      have HSET := Lib.hid (show IRow (wr.setCell ⟨BH, i, none⟩ (.int .u64 (IntKind.u64.wrap (l + z)))) BH 90 .u64 (mix s.list v.list (i + 1)) by rw [u64_wrap]; exact hset)
      have HTT := Lib.hid htt
      clear hl hz hzd hset hrow htt
      go_wp2_with fail
      refine wp_region_held_drew (S := (fun w' => w'.cell? ⟨V, i, none⟩ = some (.int .u64 z))) (by kernel_rfl) ?_ (fun hHeld => ?_)
      · exact hcv
      refine wpAnyH_take (i := 0) (oi := { dst := some 201, op := Go.Op.move (Go.Operand.tmp 17), type := 3, pos := "ref.go:91", after := #[], guard := none }) (v := ?av0) rfl (by kernel_rfl) (by kernel_rfl) (by kernel_rfl) (fun _ _ _ h => hPan _ _ _ _ _ h) (Or.inl ⟨by rfl, ?ay0⟩) (by assumption) ?ar0
      case ay0 => (intro w hSw; (try dsimp only at hSw); go_simp; try (with_reducible rfl))
      case ar0 =>
      try simp only [Act.put, List.setIfInBounds_toArray, List.set_cons_zero, List.set_cons_succ]
      refine wpAnyH_take (i := 1) (oi := { dst := some 202, op := Go.Op.move (Go.Operand.tmp 17), type := 3, pos := "ref.go:91", after := #[], guard := none }) (v := ?av1) rfl (by kernel_rfl) (by kernel_rfl) (by kernel_rfl) (fun _ _ _ h => hPan _ _ _ _ _ h) (Or.inl ⟨by rfl, ?ay1⟩) (by assumption) ?ar1
      case ay1 => (intro w hSw; (try dsimp only at hSw); go_simp; try (with_reducible rfl))
      case ar1 =>
      try simp only [Act.put, List.setIfInBounds_toArray, List.set_cons_zero, List.set_cons_succ]
      refine wpAnyH_take (i := 2) (oi := { dst := some 203, op := Go.Op.indexAddr 90 (Go.Operand.tmp 4) (Go.Operand.tmp 202), type := 0, pos := "ref.go:91", after := #[{ on := 1, ground := Go.Ground.data }], guard := none }) (v := ?av2) rfl (by kernel_rfl) (by kernel_rfl) (by kernel_rfl) (fun _ _ _ h => hPan _ _ _ _ _ h) (Or.inl ⟨by rfl, ?ay2⟩) (by assumption) ?ar2
      case ay2 => (intro w hSw; (try dsimp only at hSw); go_simp; try (with_reducible rfl))
      case ar2 =>
      try simp only [Act.put, List.setIfInBounds_toArray, List.set_cons_zero, List.set_cons_succ]
      refine wpAnyH_take (i := 4) (oi := { dst := some 205, op := Go.Op.move (Go.Operand.tmp 17), type := 3, pos := "ref.go:91", after := #[], guard := none }) (v := ?av4) rfl (by kernel_rfl) (by kernel_rfl) (by kernel_rfl) (fun _ _ _ h => hPan _ _ _ _ _ h) (Or.inl ⟨by rfl, ?ay4⟩) (by assumption) ?ar4
      case ay4 => (intro w hSw; (try dsimp only at hSw); go_simp; try (with_reducible rfl))
      case ar4 =>
      try simp only [Act.put, List.setIfInBounds_toArray, List.set_cons_zero, List.set_cons_succ]
      refine wpAnyH_take (i := 5) (oi := { dst := some 206, op := Go.Op.indexAddr 90 (Go.Operand.tmp 13) (Go.Operand.tmp 205), type := 0, pos := "ref.go:91", after := #[{ on := 4, ground := Go.Ground.data }], guard := none }) (v := ?av5) rfl (by kernel_rfl) (by kernel_rfl) (by kernel_rfl) (fun _ _ _ h => hPan _ _ _ _ _ h) (Or.inl ⟨by rfl, ?ay5⟩) (by assumption) ?ar5
      case ay5 => (intro w hSw; (try dsimp only at hSw); go_simp; try (with_reducible rfl))
      case ar5 =>
      try simp only [Act.put, List.setIfInBounds_toArray, List.set_cons_zero, List.set_cons_succ]
      refine wpAnyH_take (i := 6) (oi := { dst := some 207, op := Go.Op.load 57 (Go.Operand.tmp 206), type := 57, pos := "ref.go:91", after := #[{ on := 5, ground := Go.Ground.data }], guard := none }) (v := ?av6) rfl (by kernel_rfl) (by kernel_rfl) (by kernel_rfl) (fun _ _ _ h => hPan _ _ _ _ _ h) (Or.inl ⟨by rfl, ?ay6⟩) (by assumption) ?ar6
      case ay6 => (intro w hSw; (try dsimp only at hSw); go_simp; try (with_reducible rfl))
      case ar6 =>
      try simp only [Act.put, List.setIfInBounds_toArray, List.set_cons_zero, List.set_cons_succ]
      refine wpAnyH_ready (rs := [3]) (by kernel_rfl) (by simp) ?_
      refine AllReadyH.cons (o := { dst := some 204, op := Go.Op.load 57 (Go.Operand.tmp 203), type := 57, pos := "ref.go:91", after := #[{ on := 2, ground := Go.Ground.data }], guard := none }) rfl (fun K hK => ?_) (AllReadyH.nil)
      go_simp
      refine hK.out _ _ ?_ (fun hHeld => ?_)
      · exact hHeld
      clear hK K
      try simp only [Act.put, List.setIfInBounds_toArray, List.set_cons_zero, List.set_cons_succ]
      refine wpAnyH_take (i := 7) (oi := { dst := some 208, op := Go.Op.binOp Go.BinOp.add 57 (Go.Operand.tmp 204) (Go.Operand.tmp 207) 57, type := 57, pos := "ref.go:91", after := #[{ on := 3, ground := Go.Ground.data }, { on := 6, ground := Go.Ground.data }], guard := none }) (v := ?a_3v7) rfl (by kernel_rfl) (by kernel_rfl) (by kernel_rfl) (fun _ _ _ h => hPan _ _ _ _ _ h) (Or.inl ⟨by rfl, ?a_3y7⟩) (by assumption) ?a_3r7
      case a_3y7 => (intro w hSw; (try dsimp only at hSw); go_simp; try (with_reducible rfl))
      case a_3r7 =>
      try simp only [Act.put, List.setIfInBounds_toArray, List.set_cons_zero, List.set_cons_succ]
      refine wpAnyH_take (i := 8) (oi := { dst := some 209, op := Go.Op.indexAddr 90 (Go.Operand.tmp 4) (Go.Operand.tmp 201), type := 0, pos := "ref.go:91", after := #[{ on := 0, ground := Go.Ground.data }, { on := 0, ground := Go.Ground.phase }, { on := 1, ground := Go.Ground.phase }, { on := 2, ground := Go.Ground.phase }, { on := 3, ground := Go.Ground.phase }, { on := 4, ground := Go.Ground.phase }, { on := 5, ground := Go.Ground.phase }, { on := 6, ground := Go.Ground.phase }, { on := 7, ground := Go.Ground.phase }], guard := none }) (v := ?a_3v8) rfl (by kernel_rfl) (by kernel_rfl) (by kernel_rfl) (fun _ _ _ h => hPan _ _ _ _ _ h) (Or.inl ⟨by rfl, ?a_3y8⟩) (by assumption) ?a_3r8
      case a_3y8 => (intro w hSw; (try dsimp only at hSw); go_simp; try (with_reducible rfl))
      case a_3r8 =>
      try simp only [Act.put, List.setIfInBounds_toArray, List.set_cons_zero, List.set_cons_succ]
      refine wpAnyH_ready (rs := [9]) (by kernel_rfl) (by simp) ?_
      refine AllReadyH.cons (o := { dst := none, op := Go.Op.store 57 (Go.Operand.tmp 209) (Go.Operand.tmp 208), type := 0, pos := "ref.go:91", after := #[{ on := 8, ground := Go.Ground.data }, { on := 7, ground := Go.Ground.data }, { on := 0, ground := Go.Ground.phase }, { on := 1, ground := Go.Ground.phase }, { on := 2, ground := Go.Ground.phase }, { on := 3, ground := Go.Ground.phase }, { on := 4, ground := Go.Ground.phase }, { on := 5, ground := Go.Ground.phase }, { on := 6, ground := Go.Ground.phase }, { on := 7, ground := Go.Ground.phase }], guard := none }) rfl (fun K hK => ?_) (AllReadyH.nil)
      go_simp
      refine hK.out _ _ ?_ (fun hHeld => ?_)
      · exact (World.cell?_setCell_far wr.drew _ _ _ (by show BH ≠ V; omega)).trans hcv
      clear hK K
      try simp only [Act.put]
      refine wpAnyH_done (by kernel_rfl) ?_ _
      go_wp2_with fail
      have HT2 := HTT.out.setCell (p := ⟨BH, i, none⟩) (fun _ => rfl) (.int .u64 (IntKind.u64.wrap (l + z)))
      exact ⟨⟨i + 1, by omega, by go_num, HSET.out, ⟨HT2.os, HT2.tape, HT2.output, HT2.size, HT2.block⟩⟩, by simp [intOf]; omega⟩
    · obtain rfl : i = 8 := by omega
      have e8 : ((8 : Nat) : Int) = 8 := rfl
      rw [e8]
      have HR := Lib.hid hrow
      have HTT := Lib.hid htt
      clear e8 hrow htt h8
      go_wp2_with fail
      exact HQ.out _ _ _ _ _ _ _ _ _ _ _ _ _ _ _ HR.out HTT.out

set_option maxRecDepth 1000000 in
set_option maxHeartbeats 6400000 in
theorem rb12_any {Q : Exit → Act → World → Prop} (BH G : Nat) (s : S8) (w8 : World) (hok : s.Ok) (hHG : BH < G) (rH : IRow w8 BH 90 .u64 s.list) (rG : IRow w8 G 51 .u8 (List.replicate 64 0)) (u0 u1 u2 u3 u5 u6 u7 u8 u9 u10 u11 u12 u13 u14 u15 u16 u17 u20 u21 u22 u23 u24 u25 u26 u27 u28 u29 u30 u31 u32 u33 u34 u35 u36 u37 u38 u39 u40 u41 u42 u43 u44 u45 u46 u47 u48 u49 u50 u51 u52 u53 u54 u55 u56 u57 u58 u59 u60 u61 u62 u63 u64 u65 u66 u67 u68 u69 u70 u71 u72 u73 u74 u75 u76 u77 u78 u79 u80 u81 u82 u83 u84 u85 u86 u87 u88 u89 u90 u91 u92 u93 u94 u95 u96 u97 u98 u99 u100 u101 u102 u103 u104 u105 u106 u107 u108 u109 u110 u111 u112 u113 u114 u115 u116 u117 u118 u119 u120 u121 u122 u123 u124 u125 u126 u127 u128 u129 u130 u131 u132 u133 u134 u135 u136 u137 u138 u139 u140 u141 u142 u143 u144 u145 u146 u147 u148 u149 u150 u151 u152 u153 u154 u155 u156 u157 u158 u159 u160 u161 u162 u163 u164 u165 u166 u167 u168 u169 u170 u171 u172 u173 u174 u175 u176 u177 u178 u179 u180 u181 u182 u183 u184 u185 u186 u187 u188 u189 u190 u191 u192 u193 u194 u195 u196 u197 u198 u199 u200 u201 u202 u203 u204 u205 u206 u207 u208 u209 u210 u211 u212 u213 u214 u215 u216 u217 u218 u219 u220 u221 u222 u223 u224 u225 u226 u227 : Value)
    (_hPan : ∀ (c : List PanicEntry) (a : Act) (d : Tmp) (v : Value) (w : World), Q (.panic c) (a.put (some d) v) w → Q (.panic c) a w)
    (hQ : ∀ (v19 v210 v211 v212 v213 v214 v215 v216 v217 v218 v219 v220 v221 v222 v223 v224 v225 v226 : Value) (w' : World), IRow w' G 51 .u8 (nums (outW s.list)) → Below G w8 w' → Q .normal ⟨#[u0, u1, u2, u3, .pointer (some ⟨BH, 0, none⟩), u5, u6, u7, u8, u9, u10, u11, u12, u13, u14, u15, u16, u17, .pointer (some ⟨G, 0, none⟩), v19, u20, u21, u22, u23, u24, u25, u26, u27, u28, u29, u30, u31, u32, u33, u34, u35, u36, u37, u38, u39, u40, u41, u42, u43, u44, u45, u46, u47, u48, u49, u50, u51, u52, u53, u54, u55, u56, u57, u58, u59, u60, u61, u62, u63, u64, u65, u66, u67, u68, u69, u70, u71, u72, u73, u74, u75, u76, u77, u78, u79, u80, u81, u82, u83, u84, u85, u86, u87, u88, u89, u90, u91, u92, u93, u94, u95, u96, u97, u98, u99, u100, u101, u102, u103, u104, u105, u106, u107, u108, u109, u110, u111, u112, u113, u114, u115, u116, u117, u118, u119, u120, u121, u122, u123, u124, u125, u126, u127, u128, u129, u130, u131, u132, u133, u134, u135, u136, u137, u138, u139, u140, u141, u142, u143, u144, u145, u146, u147, u148, u149, u150, u151, u152, u153, u154, u155, u156, u157, u158, u159, u160, u161, u162, u163, u164, u165, u166, u167, u168, u169, u170, u171, u172, u173, u174, u175, u176, u177, u178, u179, u180, u181, u182, u183, u184, u185, u186, u187, u188, u189, u190, u191, u192, u193, u194, u195, u196, u197, u198, u199, u200, u201, u202, u203, u204, u205, u206, u207, u208, u209, v210, v211, v212, v213, v214, v215, v216, v217, v218, v219, v220, v221, v222, v223, v224, v225, v226, u227], []⟩ w') :
    Code.wp Tryd.prog (blkOf 12 Tryd.f31) Q ⟨#[u0, u1, u2, u3, .pointer (some ⟨BH, 0, none⟩), u5, u6, u7, u8, u9, u10, u11, u12, u13, u14, u15, u16, u17, .pointer (some ⟨G, 0, none⟩), .int .i64 0, u20, u21, u22, u23, u24, u25, u26, u27, u28, u29, u30, u31, u32, u33, u34, u35, u36, u37, u38, u39, u40, u41, u42, u43, u44, u45, u46, u47, u48, u49, u50, u51, u52, u53, u54, u55, u56, u57, u58, u59, u60, u61, u62, u63, u64, u65, u66, u67, u68, u69, u70, u71, u72, u73, u74, u75, u76, u77, u78, u79, u80, u81, u82, u83, u84, u85, u86, u87, u88, u89, u90, u91, u92, u93, u94, u95, u96, u97, u98, u99, u100, u101, u102, u103, u104, u105, u106, u107, u108, u109, u110, u111, u112, u113, u114, u115, u116, u117, u118, u119, u120, u121, u122, u123, u124, u125, u126, u127, u128, u129, u130, u131, u132, u133, u134, u135, u136, u137, u138, u139, u140, u141, u142, u143, u144, u145, u146, u147, u148, u149, u150, u151, u152, u153, u154, u155, u156, u157, u158, u159, u160, u161, u162, u163, u164, u165, u166, u167, u168, u169, u170, u171, u172, u173, u174, u175, u176, u177, u178, u179, u180, u181, u182, u183, u184, u185, u186, u187, u188, u189, u190, u191, u192, u193, u194, u195, u196, u197, u198, u199, u200, u201, u202, u203, u204, u205, u206, u207, u208, u209, u210, u211, u212, u213, u214, u215, u216, u217, u218, u219, u220, u221, u222, u223, u224, u225, u226, u227], []⟩ w8 := by
  conv => arg 2; whnf
  have HQ := Lib.hid hQ
  have RH := Lib.hid rH
  have RG := Lib.hid rG
  have HOK := Lib.hid hok
  have HOL := Lib.hid (show (nums (outW s.list)).length = 64 by rw [nums_length, outW_length]; rfl)
  clear hQ rH rG hok
  go_wp2_with fail
  go_loopw [19] (fun v19 wr => ∃ i : Nat, i ≤ 64 ∧ v19 = .int .i64 (i : Int) ∧ IRow wr G 51 .u8 (padZ 64 ((nums (outW s.list)).take i)) ∧ Below G w8 wr) (fun v19 _ => 64 - (intOf v19).toNat)
  case atStart => exact ⟨0, by omega, rfl, RG.out, Below.refl _ _⟩
  case round =>
    obtain ⟨i, hi, rfl, hrow, hbel⟩ := hrel
    by_cases h32 : i < 64
    · obtain ⟨q, hq⟩ : ∃ q, q = i / 8 := ⟨_, rfl⟩
      obtain ⟨r, hr⟩ : ∃ r, r = i % 8 := ⟨_, rfl⟩
      obtain ⟨sh, hsh⟩ : ∃ sh, sh = 56 - 8 * r := ⟨_, rfl⟩
      have e1 : (i : Int) / 8 = (q : Int) := by omega
      have e2 : (i : Int) % 8 = (r : Int) := by omega
      have e3 : 56 - 8 * (r : Int) = (sh : Int) := by omega
      have bq : (q : Int) < 8 := by omega
      have bs32 : sh ≤ 56 := by omega
      have b32 : (i : Int) < 64 := by omega
      obtain ⟨x, hx⟩ : ∃ x, s.list[q]? = some x := ⟨_, List.getElem?_eq_getElem (by have : s.list.length = 8 := rfl; omega)⟩
      have hxu : U64 x := S8.mem_ok HOK.out (List.mem_of_getElem? hx)
      have hat := outW_at s.list (i := i) (x := x) (by rw [← hq]; exact hx) hxu
      rw [← hr, ← hsh] at hat
      have hcx : wr.cell? ⟨BH, q, none⟩ = some (.int .u64 x) := (RH.out.below hbel hHG).cell hx
      have htl : ((nums (outW s.list)).take i).length = i := by rw [List.length_take, HOL.out]; omega
      have hcg : wr.cell? ⟨G, i, none⟩ = some (.int .u8 0) := hrow.cell (by have h := padZ_next (n := 64) (l := (nums (outW s.list)).take i) (by omega); rw [htl] at h; exact h)
      have hfg := hrow.free i
      have hset := hrow.set i (x / 2 ^ sh % 256)
      have hpz := padZ_set (n := 64) (l := (nums (outW s.list)).take i) (z := x / 2 ^ sh % 256) (by omega)
      rw [htl] at hpz
      have htk : (nums (outW s.list)).take i ++ [x / 2 ^ sh % 256] = (nums (outW s.list)).take (i + 1) := by rw [List.take_add_one, hat]; rfl
      rw [hpz, htk] at hset
      have HSET := Lib.hid hset
      have HBEL := Lib.hid hbel
      clear hx hxu hat htl hpz htk hset hrow hbel hq hr hsh
      go_wp2_with fail
      
      exact ⟨⟨i + 1, by omega, by go_num, HSET.out, HBEL.out.setCell (p := ⟨G, i, none⟩) (Nat.le_refl _) _⟩, by simp [intOf]; omega⟩
    · obtain rfl : i = 64 := by omega
      have e32 : ((64 : Nat) : Int) = 64 := rfl
      rw [e32]
      rw [List.take_of_length_le (by rw [HOL.out]; omega), padZ_full HOL.out] at hrow
      have HR := Lib.hid hrow
      have HBEL := Lib.hid hbel
      clear e32 hrow hbel h32
      go_wp2_with fail
      exact HQ.out _ _ _ _ _ _ _ _ _ _ _ _ _ _ _ _ _ _ _ HR.out HBEL.out
end Go.Proofs.YtfkpdbmgiefnfaaDoor.S5
