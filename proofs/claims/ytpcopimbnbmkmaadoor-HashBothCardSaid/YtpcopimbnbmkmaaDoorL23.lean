/-
  Texts joined: RB8, RB10, RSum. Conditions: those of each.
-/
import Derived.Test.YtpcopimbnbmkmaaDoorL22
import Derived.Test.YtpcopimbnbmkmaaDoorL18
import Derived.Deep.CutBlock
/-
  The reference's Sum256: the sixty-four rounds. Conditions: none.
-/
namespace Go.Proofs.YtpcopimbnbmkmaaDoor
open Go.RowKit

theorem k256_at {t : Nat} (h : t < 64) : ∃ k, k256[t]? = some k ∧ U32 k := by
  have hl : k256.length = 64 := rfl
  refine ⟨k256[t]'(by omega), List.getElem?_eq_getElem _, ?_⟩
  have h2 : ∀ x ∈ k256, 0 ≤ x ∧ x < 4294967296 := by decide
  exact h2 _ (List.getElem_mem _)
set_option maxRecDepth 1000000 in
set_option maxHeartbeats 12800000 in
theorem rb8_any {Q : Exit → Act → World → Prop} (BK W V : Nat) (bs : List UInt8) (s0 : S8) (w6 : World) (hok : s0.Ok) (hKV : BK < V) (hWV : W < V) (rK : IRow w6 BK 49 .u32 k256) (rW : IRow w6 W 49 .u32 (W64 bs)) (rV : IRow w6 V 40 .u32 s0.list) (u0 u1 u2 u4 u5 u6 u8 u9 u10 u11 u12 u15 u16 u17 u18 u19 u20 u21 u22 u23 u24 u25 u26 u27 u28 u29 u30 u31 u32 u33 u34 u35 u36 u37 u38 u39 u40 u41 u42 u43 u44 u45 u46 u47 u48 u49 u50 u51 u52 u53 u54 u55 u56 u57 u58 u59 u60 u61 u62 u63 u64 u65 u66 u67 u68 u69 u70 u71 u72 u73 u74 u75 u76 u77 u78 u79 u80 u81 u82 u83 u84 u85 u86 u87 u88 u89 u90 u91 u92 u93 u94 u95 u96 u97 u98 u99 u100 u101 u102 u103 u104 u105 u106 u107 u108 u109 u110 u111 u112 u113 u114 u115 u116 u117 u118 u119 u120 u121 u122 u123 u124 u125 u126 u127 u128 u129 u130 u131 u132 u133 u134 u135 u136 u137 u138 u139 u140 u141 u142 u143 u144 u145 u146 u147 u148 u149 u150 u151 u152 u153 u154 u155 u156 u157 u158 u159 u160 u161 u162 u163 u164 u165 u166 u167 u168 u169 u170 u171 u172 u173 u174 u175 u176 u177 u178 u179 u180 u181 u182 u183 u184 u185 u186 u187 u188 u189 u190 u191 u192 u193 u194 u195 u196 u197 u198 u199 u200 u201 u202 u203 u204 u205 u206 u207 u208 u209 u210 u211 u212 u213 u214 u215 u216 u217 u218 u219 u220 u221 u222 u223 u224 u225 u226 u227 : Value)
    (hPan : ∀ (c : List PanicEntry) (a : Act) (d : Tmp) (v : Value) (w : World), Q (.panic c) (a.put (some d) v) w → Q (.panic c) a w)
    (hQ : ∀ (v14 v15 v16 v109 v110 v111 v112 v113 v114 v115 v116 v117 v118 v119 v120 v121 v122 v123 v124 v125 v126 v127 v128 v129 v130 v131 v132 v133 v134 v135 v136 v137 v138 v139 v140 v141 v142 v143 v144 v145 v146 v147 v148 v149 v150 v151 v152 v153 v154 v155 v156 v157 v158 v159 v160 v161 v162 v163 v164 v165 v166 v167 v168 v169 v170 v171 v172 v173 v174 v175 v176 v177 v178 v179 v180 v181 v182 v183 v184 v185 v186 v187 v188 v189 v190 v191 v192 v193 v194 v195 v196 : Value) (w' : World), IRow w' V 40 .u32 (rounds k256 (W64 bs) 64 s0).list → Below V w6 w' → Q .normal ⟨#[u0, u1, u2, .pointer (some ⟨BK, 0, none⟩), u4, u5, u6, .pointer (some ⟨W, 0, none⟩), u8, u9, u10, u11, u12, .pointer (some ⟨V, 0, none⟩), v14, v15, v16, u17, u18, u19, u20, u21, u22, u23, u24, u25, u26, u27, u28, u29, u30, u31, u32, u33, u34, u35, u36, u37, u38, u39, u40, u41, u42, u43, u44, u45, u46, u47, u48, u49, u50, u51, u52, u53, u54, u55, u56, u57, u58, u59, u60, u61, u62, u63, u64, u65, u66, u67, u68, u69, u70, u71, u72, u73, u74, u75, u76, u77, u78, u79, u80, u81, u82, u83, u84, u85, u86, u87, u88, u89, u90, u91, u92, u93, u94, u95, u96, u97, u98, u99, u100, u101, u102, u103, u104, u105, u106, u107, u108, v109, v110, v111, v112, v113, v114, v115, v116, v117, v118, v119, v120, v121, v122, v123, v124, v125, v126, v127, v128, v129, v130, v131, v132, v133, v134, v135, v136, v137, v138, v139, v140, v141, v142, v143, v144, v145, v146, v147, v148, v149, v150, v151, v152, v153, v154, v155, v156, v157, v158, v159, v160, v161, v162, v163, v164, v165, v166, v167, v168, v169, v170, v171, v172, v173, v174, v175, v176, v177, v178, v179, v180, v181, v182, v183, v184, v185, v186, v187, v188, v189, v190, v191, v192, v193, v194, v195, v196, u197, u198, u199, u200, u201, u202, u203, u204, u205, u206, u207, u208, u209, u210, u211, u212, u213, u214, u215, u216, u217, u218, u219, u220, u221, u222, u223, u224, u225, u226, u227], []⟩ w') :
    Code.wp Tryd.prog (blkOf 8 Tryd.f9) Q ⟨#[u0, u1, u2, .pointer (some ⟨BK, 0, none⟩), u4, u5, u6, .pointer (some ⟨W, 0, none⟩), u8, u9, u10, u11, u12, .pointer (some ⟨V, 0, none⟩), .int .i64 0, u15, u16, u17, u18, u19, u20, u21, u22, u23, u24, u25, u26, u27, u28, u29, u30, u31, u32, u33, u34, u35, u36, u37, u38, u39, u40, u41, u42, u43, u44, u45, u46, u47, u48, u49, u50, u51, u52, u53, u54, u55, u56, u57, u58, u59, u60, u61, u62, u63, u64, u65, u66, u67, u68, u69, u70, u71, u72, u73, u74, u75, u76, u77, u78, u79, u80, u81, u82, u83, u84, u85, u86, u87, u88, u89, u90, u91, u92, u93, u94, u95, u96, u97, u98, u99, u100, u101, u102, u103, u104, u105, u106, u107, u108, u109, u110, u111, u112, u113, u114, u115, u116, u117, u118, u119, u120, u121, u122, u123, u124, u125, u126, u127, u128, u129, u130, u131, u132, u133, u134, u135, u136, u137, u138, u139, u140, u141, u142, u143, u144, u145, u146, u147, u148, u149, u150, u151, u152, u153, u154, u155, u156, u157, u158, u159, u160, u161, u162, u163, u164, u165, u166, u167, u168, u169, u170, u171, u172, u173, u174, u175, u176, u177, u178, u179, u180, u181, u182, u183, u184, u185, u186, u187, u188, u189, u190, u191, u192, u193, u194, u195, u196, u197, u198, u199, u200, u201, u202, u203, u204, u205, u206, u207, u208, u209, u210, u211, u212, u213, u214, u215, u216, u217, u218, u219, u220, u221, u222, u223, u224, u225, u226, u227], []⟩ w6 := by
  conv => arg 2; whnf
  have HQ := Lib.hid hQ
  have RK := Lib.hid rK
  have RW := Lib.hid rW
  have RV := Lib.hid rV
  have HS := Lib.hid hok
  clear hQ rK rW rV hok
  go_wp2_with fail
  go_loopw [14] (fun v14 wr => ∃ (t : Nat) (s : S8), t ≤ 64 ∧ Hid (s = rounds k256 (W64 bs) t s0) ∧ v14 = .int .i64 (t : Int) ∧ IRow wr V 40 .u32 s.list ∧ Below V w6 wr) (fun v14 _ => 64 - (intOf v14).toNat)
  case atStart => exact ⟨0, s0, by omega, Lib.hid rfl, rfl, RV.out, Below.refl _ _⟩
  case round =>
    obtain ⟨t, s, ht, hst, rfl, hrow, hbel⟩ := hrel
    by_cases h64 : t < 64
    · obtain ⟨kk, hk, hkk⟩ := k256_at h64
      obtain ⟨x, hx⟩ : ∃ x, (W64 bs)[t]? = some x := ⟨_, List.getElem?_eq_getElem (by rw [W64_length]; omega)⟩
      have kc : wr.cell? ⟨BK, t, none⟩ = some (.int .u32 kk) := (RK.out.below hbel hKV).cell hk
      have wc : wr.cell? ⟨W, t, none⟩ = some (.int .u32 x) := (RW.out.below hbel hWV).cell hx
      have m0 := hrow.cell (i := 0) rfl
      have m1 := hrow.cell (i := 1) rfl
      have m2 := hrow.cell (i := 2) rfl
      have m3 := hrow.cell (i := 3) rfl
      have m4 := hrow.cell (i := 4) rfl
      have m5 := hrow.cell (i := 5) rfl
      have m6 := hrow.cell (i := 6) rfl
      have m7 := hrow.cell (i := 7) rfl
      have bt : (t : Int) < 64 := by omega
      have hok : s.Ok := by rw [hst.out]; exact rounds_ok _ _ _ HS.out
      have C1 := Lib.hid (fun W => rrot_any s.e 26 W hok.e (by omega))
      have C2 := Lib.hid (fun W => rrot_any s.e 21 W hok.e (by omega))
      have C3 := Lib.hid (fun W => rrot_any s.e 7 W hok.e (by omega))
      have C4 := Lib.hid (fun W => rrot_any s.a 30 W hok.a (by omega))
      have C5 := Lib.hid (fun W => rrot_any s.a 19 W hok.a (by omega))
      have C6 := Lib.hid (fun W => rrot_any s.a 10 W hok.a (by omega))
      have HX := Lib.hid hx
      have HK := Lib.hid hk
      have HROW := Lib.hid hrow
      have HBEL := Lib.hid hbel
      clear hx hk hrow hbel hok hkk
      go_wp2_with fail
      refine wp_region_held_drew (S := (fun w' => w'.cell? ⟨V, 4, none⟩ = some (.int .u32 s.e) ∧ w'.cell? ⟨V, 5, none⟩ = some (.int .u32 s.f) ∧ w'.cell? ⟨V, 6, none⟩ = some (.int .u32 s.g) ∧ w'.cell? ⟨V, 7, none⟩ = some (.int .u32 s.h) ∧ w'.cell? ⟨BK, t, none⟩ = some (.int .u32 kk) ∧ w'.cell? ⟨W, t, none⟩ = some (.int .u32 x))) (by kernel_rfl) ?_ (fun hHeld => ?_)
      · exact ⟨m4, m5, m6, m7, kc, wc⟩
      refine wpAnyH_take (i := 0) (oi := { dst := some 113, op := Go.Op.indexAddr 40 (Go.Operand.tmp 13) (Go.Operand.const (Go.Value.int Go.IntKind.i64 7)), type := 0, pos := "ref.go:52", after := #[], guard := none }) (v := ?av0) rfl (by kernel_rfl) (by kernel_rfl) (by kernel_rfl) (fun _ _ _ h => hPan _ _ _ _ _ h) (Or.inl ⟨by rfl, ?ay0⟩) (by assumption) ?ar0
      case ay0 => (intro w hSw; (try dsimp only at hSw); go_simp; try (with_reducible rfl))
      case ar0 =>
      try simp only [Act.put, List.setIfInBounds_toArray, List.set_cons_zero, List.set_cons_succ]
      refine wpAnyH_take (i := 1) (oi := { dst := some 114, op := Go.Op.load 39 (Go.Operand.tmp 113), type := 39, pos := "ref.go:52", after := #[{ on := 0, ground := Go.Ground.data }], guard := none }) (v := ?av1) rfl (by kernel_rfl) (by kernel_rfl) (by kernel_rfl) (fun _ _ _ h => hPan _ _ _ _ _ h) (Or.inl ⟨by rfl, ?ay1⟩) (by assumption) ?ar1
      case ay1 => (intro w hSw; (try dsimp only at hSw); go_simp; try (with_reducible rfl))
      case ar1 =>
      try simp only [Act.put, List.setIfInBounds_toArray, List.set_cons_zero, List.set_cons_succ]
      refine wpAnyH_take (i := 2) (oi := { dst := some 115, op := Go.Op.indexAddr 40 (Go.Operand.tmp 13) (Go.Operand.const (Go.Value.int Go.IntKind.i64 4)), type := 0, pos := "ref.go:52", after := #[], guard := none }) (v := ?av2) rfl (by kernel_rfl) (by kernel_rfl) (by kernel_rfl) (fun _ _ _ h => hPan _ _ _ _ _ h) (Or.inl ⟨by rfl, ?ay2⟩) (by assumption) ?ar2
      case ay2 => (intro w hSw; (try dsimp only at hSw); go_simp; try (with_reducible rfl))
      case ar2 =>
      try simp only [Act.put, List.setIfInBounds_toArray, List.set_cons_zero, List.set_cons_succ]
      refine wpAnyH_take (i := 3) (oi := { dst := some 116, op := Go.Op.load 39 (Go.Operand.tmp 115), type := 39, pos := "ref.go:52", after := #[{ on := 2, ground := Go.Ground.data }], guard := none }) (v := ?av3) rfl (by kernel_rfl) (by kernel_rfl) (by kernel_rfl) (fun _ _ _ h => hPan _ _ _ _ _ h) (Or.inl ⟨by rfl, ?ay3⟩) (by assumption) ?ar3
      case ay3 => (intro w hSw; (try dsimp only at hSw); go_simp; try (with_reducible rfl))
      case ar3 =>
      try simp only [Act.put, List.setIfInBounds_toArray, List.set_cons_zero, List.set_cons_succ]
      refine wpAnyH_take (i := 5) (oi := { dst := some 118, op := Go.Op.indexAddr 40 (Go.Operand.tmp 13) (Go.Operand.const (Go.Value.int Go.IntKind.i64 4)), type := 0, pos := "ref.go:52", after := #[], guard := none }) (v := ?av5) rfl (by kernel_rfl) (by kernel_rfl) (by kernel_rfl) (fun _ _ _ h => hPan _ _ _ _ _ h) (Or.inl ⟨by rfl, ?ay5⟩) (by assumption) ?ar5
      case ay5 => (intro w hSw; (try dsimp only at hSw); go_simp; try (with_reducible rfl))
      case ar5 =>
      try simp only [Act.put, List.setIfInBounds_toArray, List.set_cons_zero, List.set_cons_succ]
      refine wpAnyH_take (i := 6) (oi := { dst := some 119, op := Go.Op.load 39 (Go.Operand.tmp 118), type := 39, pos := "ref.go:52", after := #[{ on := 5, ground := Go.Ground.data }], guard := none }) (v := ?av6) rfl (by kernel_rfl) (by kernel_rfl) (by kernel_rfl) (fun _ _ _ h => hPan _ _ _ _ _ h) (Or.inl ⟨by rfl, ?ay6⟩) (by assumption) ?ar6
      case ay6 => (intro w hSw; (try dsimp only at hSw); go_simp; try (with_reducible rfl))
      case ar6 =>
      try simp only [Act.put, List.setIfInBounds_toArray, List.set_cons_zero, List.set_cons_succ]
      refine wpAnyH_take (i := 9) (oi := { dst := some 122, op := Go.Op.indexAddr 40 (Go.Operand.tmp 13) (Go.Operand.const (Go.Value.int Go.IntKind.i64 4)), type := 0, pos := "ref.go:52", after := #[], guard := none }) (v := ?av9) rfl (by kernel_rfl) (by kernel_rfl) (by kernel_rfl) (fun _ _ _ h => hPan _ _ _ _ _ h) (Or.inl ⟨by rfl, ?ay9⟩) (by assumption) ?ar9
      case ay9 => (intro w hSw; (try dsimp only at hSw); go_simp; try (with_reducible rfl))
      case ar9 =>
      try simp only [Act.put, List.setIfInBounds_toArray, List.set_cons_zero, List.set_cons_succ]
      refine wpAnyH_take (i := 10) (oi := { dst := some 123, op := Go.Op.load 39 (Go.Operand.tmp 122), type := 39, pos := "ref.go:52", after := #[{ on := 9, ground := Go.Ground.data }], guard := none }) (v := ?av10) rfl (by kernel_rfl) (by kernel_rfl) (by kernel_rfl) (fun _ _ _ h => hPan _ _ _ _ _ h) (Or.inl ⟨by rfl, ?ay10⟩) (by assumption) ?ar10
      case ay10 => (intro w hSw; (try dsimp only at hSw); go_simp; try (with_reducible rfl))
      case ar10 =>
      try simp only [Act.put, List.setIfInBounds_toArray, List.set_cons_zero, List.set_cons_succ]
      refine wpAnyH_take (i := 14) (oi := { dst := some 127, op := Go.Op.indexAddr 40 (Go.Operand.tmp 13) (Go.Operand.const (Go.Value.int Go.IntKind.i64 4)), type := 0, pos := "ref.go:52", after := #[], guard := none }) (v := ?av14) rfl (by kernel_rfl) (by kernel_rfl) (by kernel_rfl) (fun _ _ _ h => hPan _ _ _ _ _ h) (Or.inl ⟨by rfl, ?ay14⟩) (by assumption) ?ar14
      case ay14 => (intro w hSw; (try dsimp only at hSw); go_simp; try (with_reducible rfl))
      case ar14 =>
      try simp only [Act.put, List.setIfInBounds_toArray, List.set_cons_zero, List.set_cons_succ]
      refine wpAnyH_take (i := 15) (oi := { dst := some 128, op := Go.Op.load 39 (Go.Operand.tmp 127), type := 39, pos := "ref.go:52", after := #[{ on := 14, ground := Go.Ground.data }], guard := none }) (v := ?av15) rfl (by kernel_rfl) (by kernel_rfl) (by kernel_rfl) (fun _ _ _ h => hPan _ _ _ _ _ h) (Or.inl ⟨by rfl, ?ay15⟩) (by assumption) ?ar15
      case ay15 => (intro w hSw; (try dsimp only at hSw); go_simp; try (with_reducible rfl))
      case ar15 =>
      try simp only [Act.put, List.setIfInBounds_toArray, List.set_cons_zero, List.set_cons_succ]
      refine wpAnyH_take (i := 16) (oi := { dst := some 129, op := Go.Op.indexAddr 40 (Go.Operand.tmp 13) (Go.Operand.const (Go.Value.int Go.IntKind.i64 5)), type := 0, pos := "ref.go:52", after := #[], guard := none }) (v := ?av16) rfl (by kernel_rfl) (by kernel_rfl) (by kernel_rfl) (fun _ _ _ h => hPan _ _ _ _ _ h) (Or.inl ⟨by rfl, ?ay16⟩) (by assumption) ?ar16
      case ay16 => (intro w hSw; (try dsimp only at hSw); go_simp; try (with_reducible rfl))
      case ar16 =>
      try simp only [Act.put, List.setIfInBounds_toArray, List.set_cons_zero, List.set_cons_succ]
      refine wpAnyH_take (i := 17) (oi := { dst := some 130, op := Go.Op.load 39 (Go.Operand.tmp 129), type := 39, pos := "ref.go:52", after := #[{ on := 16, ground := Go.Ground.data }], guard := none }) (v := ?av17) rfl (by kernel_rfl) (by kernel_rfl) (by kernel_rfl) (fun _ _ _ h => hPan _ _ _ _ _ h) (Or.inl ⟨by rfl, ?ay17⟩) (by assumption) ?ar17
      case ay17 => (intro w hSw; (try dsimp only at hSw); go_simp; try (with_reducible rfl))
      case ar17 =>
      try simp only [Act.put, List.setIfInBounds_toArray, List.set_cons_zero, List.set_cons_succ]
      refine wpAnyH_take (i := 18) (oi := { dst := some 131, op := Go.Op.binOp Go.BinOp.and 39 (Go.Operand.tmp 128) (Go.Operand.tmp 130) 39, type := 39, pos := "ref.go:52", after := #[{ on := 15, ground := Go.Ground.data }, { on := 17, ground := Go.Ground.data }], guard := none }) (v := ?av18) rfl (by kernel_rfl) (by kernel_rfl) (by kernel_rfl) (fun _ _ _ h => hPan _ _ _ _ _ h) (Or.inl ⟨by rfl, ?ay18⟩) (by assumption) ?ar18
      case ay18 => (intro w hSw; (try dsimp only at hSw); go_simp; try (with_reducible rfl))
      case ar18 =>
      try simp only [Act.put, List.setIfInBounds_toArray, List.set_cons_zero, List.set_cons_succ]
      refine wpAnyH_take (i := 19) (oi := { dst := some 132, op := Go.Op.indexAddr 40 (Go.Operand.tmp 13) (Go.Operand.const (Go.Value.int Go.IntKind.i64 4)), type := 0, pos := "ref.go:52", after := #[], guard := none }) (v := ?av19) rfl (by kernel_rfl) (by kernel_rfl) (by kernel_rfl) (fun _ _ _ h => hPan _ _ _ _ _ h) (Or.inl ⟨by rfl, ?ay19⟩) (by assumption) ?ar19
      case ay19 => (intro w hSw; (try dsimp only at hSw); go_simp; try (with_reducible rfl))
      case ar19 =>
      try simp only [Act.put, List.setIfInBounds_toArray, List.set_cons_zero, List.set_cons_succ]
      refine wpAnyH_take (i := 20) (oi := { dst := some 133, op := Go.Op.load 39 (Go.Operand.tmp 132), type := 39, pos := "ref.go:52", after := #[{ on := 19, ground := Go.Ground.data }], guard := none }) (v := ?av20) rfl (by kernel_rfl) (by kernel_rfl) (by kernel_rfl) (fun _ _ _ h => hPan _ _ _ _ _ h) (Or.inl ⟨by rfl, ?ay20⟩) (by assumption) ?ar20
      case ay20 => (intro w hSw; (try dsimp only at hSw); go_simp; try (with_reducible rfl))
      case ar20 =>
      try simp only [Act.put, List.setIfInBounds_toArray, List.set_cons_zero, List.set_cons_succ]
      refine wpAnyH_take (i := 21) (oi := { dst := some 134, op := Go.Op.unOp Go.UnOp.xor 39 (Go.Operand.tmp 133), type := 39, pos := "ref.go:52", after := #[{ on := 20, ground := Go.Ground.data }], guard := none }) (v := ?av21) rfl (by kernel_rfl) (by kernel_rfl) (by kernel_rfl) (fun _ _ _ h => hPan _ _ _ _ _ h) (Or.inl ⟨by rfl, ?ay21⟩) (by assumption) ?ar21
      case ay21 => (intro w hSw; (try dsimp only at hSw); go_simp; try (with_reducible rfl))
      case ar21 =>
      try simp only [Act.put, List.setIfInBounds_toArray, List.set_cons_zero, List.set_cons_succ]
      refine wpAnyH_take (i := 22) (oi := { dst := some 135, op := Go.Op.indexAddr 40 (Go.Operand.tmp 13) (Go.Operand.const (Go.Value.int Go.IntKind.i64 6)), type := 0, pos := "ref.go:52", after := #[], guard := none }) (v := ?av22) rfl (by kernel_rfl) (by kernel_rfl) (by kernel_rfl) (fun _ _ _ h => hPan _ _ _ _ _ h) (Or.inl ⟨by rfl, ?ay22⟩) (by assumption) ?ar22
      case ay22 => (intro w hSw; (try dsimp only at hSw); go_simp; try (with_reducible rfl))
      case ar22 =>
      try simp only [Act.put, List.setIfInBounds_toArray, List.set_cons_zero, List.set_cons_succ]
      refine wpAnyH_take (i := 23) (oi := { dst := some 136, op := Go.Op.load 39 (Go.Operand.tmp 135), type := 39, pos := "ref.go:52", after := #[{ on := 22, ground := Go.Ground.data }], guard := none }) (v := ?av23) rfl (by kernel_rfl) (by kernel_rfl) (by kernel_rfl) (fun _ _ _ h => hPan _ _ _ _ _ h) (Or.inl ⟨by rfl, ?ay23⟩) (by assumption) ?ar23
      case ay23 => (intro w hSw; (try dsimp only at hSw); go_simp; try (with_reducible rfl))
      case ar23 =>
      try simp only [Act.put, List.setIfInBounds_toArray, List.set_cons_zero, List.set_cons_succ]
      refine wpAnyH_take (i := 24) (oi := { dst := some 137, op := Go.Op.binOp Go.BinOp.and 39 (Go.Operand.tmp 134) (Go.Operand.tmp 136) 39, type := 39, pos := "ref.go:52", after := #[{ on := 21, ground := Go.Ground.data }, { on := 23, ground := Go.Ground.data }], guard := none }) (v := ?av24) rfl (by kernel_rfl) (by kernel_rfl) (by kernel_rfl) (fun _ _ _ h => hPan _ _ _ _ _ h) (Or.inl ⟨by rfl, ?ay24⟩) (by assumption) ?ar24
      case ay24 => (intro w hSw; (try dsimp only at hSw); go_simp; try (with_reducible rfl))
      case ar24 =>
      try simp only [Act.put, List.setIfInBounds_toArray, List.set_cons_zero, List.set_cons_succ]
      refine wpAnyH_take (i := 25) (oi := { dst := some 138, op := Go.Op.binOp Go.BinOp.xor 39 (Go.Operand.tmp 131) (Go.Operand.tmp 137) 39, type := 39, pos := "ref.go:52", after := #[{ on := 18, ground := Go.Ground.data }, { on := 24, ground := Go.Ground.data }], guard := none }) (v := ?av25) rfl (by kernel_rfl) (by kernel_rfl) (by kernel_rfl) (fun _ _ _ h => hPan _ _ _ _ _ h) (Or.inl ⟨by rfl, ?ay25⟩) (by assumption) ?ar25
      case ay25 => (intro w hSw; (try dsimp only at hSw); go_simp; try (with_reducible rfl))
      case ar25 =>
      try simp only [Act.put, List.setIfInBounds_toArray, List.set_cons_zero, List.set_cons_succ]
      refine wpAnyH_take (i := 27) (oi := { dst := some 140, op := Go.Op.move (Go.Operand.tmp 14), type := 3, pos := "ref.go:52", after := #[], guard := none }) (v := ?av27) rfl (by kernel_rfl) (by kernel_rfl) (by kernel_rfl) (fun _ _ _ h => hPan _ _ _ _ _ h) (Or.inl ⟨by rfl, ?ay27⟩) (by assumption) ?ar27
      case ay27 => (intro w hSw; (try dsimp only at hSw); go_simp; try (with_reducible rfl))
      case ar27 =>
      try simp only [Act.put, List.setIfInBounds_toArray, List.set_cons_zero, List.set_cons_succ]
      refine wpAnyH_take (i := 28) (oi := { dst := some 141, op := Go.Op.indexAddr 49 (Go.Operand.tmp 3) (Go.Operand.tmp 140), type := 0, pos := "ref.go:52", after := #[{ on := 27, ground := Go.Ground.data }], guard := none }) (v := ?av28) rfl (by kernel_rfl) (by kernel_rfl) (by kernel_rfl) (fun _ _ _ h => hPan _ _ _ _ _ h) (Or.inl ⟨by rfl, ?ay28⟩) (by assumption) ?ar28
      case ay28 => (intro w hSw; (try dsimp only at hSw); go_simp; try (with_reducible rfl))
      case ar28 =>
      try simp only [Act.put, List.setIfInBounds_toArray, List.set_cons_zero, List.set_cons_succ]
      refine wpAnyH_take (i := 29) (oi := { dst := some 142, op := Go.Op.load 39 (Go.Operand.tmp 141), type := 39, pos := "ref.go:52", after := #[{ on := 28, ground := Go.Ground.data }], guard := none }) (v := ?av29) rfl (by kernel_rfl) (by kernel_rfl) (by kernel_rfl) (fun _ _ _ h => hPan _ _ _ _ _ h) (Or.inl ⟨by rfl, ?ay29⟩) (by assumption) ?ar29
      case ay29 => (intro w hSw; (try dsimp only at hSw); go_simp; try (with_reducible rfl))
      case ar29 =>
      try simp only [Act.put, List.setIfInBounds_toArray, List.set_cons_zero, List.set_cons_succ]
      refine wpAnyH_take (i := 31) (oi := { dst := some 144, op := Go.Op.move (Go.Operand.tmp 14), type := 3, pos := "ref.go:52", after := #[], guard := none }) (v := ?av31) rfl (by kernel_rfl) (by kernel_rfl) (by kernel_rfl) (fun _ _ _ h => hPan _ _ _ _ _ h) (Or.inl ⟨by rfl, ?ay31⟩) (by assumption) ?ar31
      case ay31 => (intro w hSw; (try dsimp only at hSw); go_simp; try (with_reducible rfl))
      case ar31 =>
      try simp only [Act.put, List.setIfInBounds_toArray, List.set_cons_zero, List.set_cons_succ]
      refine wpAnyH_take (i := 32) (oi := { dst := some 145, op := Go.Op.indexAddr 49 (Go.Operand.tmp 7) (Go.Operand.tmp 144), type := 0, pos := "ref.go:52", after := #[{ on := 31, ground := Go.Ground.data }], guard := none }) (v := ?av32) rfl (by kernel_rfl) (by kernel_rfl) (by kernel_rfl) (fun _ _ _ h => hPan _ _ _ _ _ h) (Or.inl ⟨by rfl, ?ay32⟩) (by assumption) ?ar32
      case ay32 => (intro w hSw; (try dsimp only at hSw); go_simp; try (with_reducible rfl))
      case ar32 =>
      try simp only [Act.put, List.setIfInBounds_toArray, List.set_cons_zero, List.set_cons_succ]
      refine wpAnyH_take (i := 33) (oi := { dst := some 146, op := Go.Op.load 39 (Go.Operand.tmp 145), type := 39, pos := "ref.go:52", after := #[{ on := 32, ground := Go.Ground.data }], guard := none }) (v := ?av33) rfl (by kernel_rfl) (by kernel_rfl) (by kernel_rfl) (fun _ _ _ h => hPan _ _ _ _ _ h) (Or.inl ⟨by rfl, ?ay33⟩) (by assumption) ?ar33
      case ay33 => (intro w hSw; (try dsimp only at hSw); go_simp; try (with_reducible rfl))
      case ar33 =>
      try simp only [Act.put, List.setIfInBounds_toArray, List.set_cons_zero, List.set_cons_succ]
      refine wpAnyH_ready (rs := [4]) (by kernel_rfl) (by simp) ?_
      refine AllReadyH.cons (o := { dst := some 117, op := Go.Op.call { callee := Go.Callee.value (Go.Operand.func 25), args := #[Go.Operand.tmp 116, Go.Operand.const (Go.Value.int Go.IntKind.i64 26)], argTypes := #[39, 3] }, type := 39, pos := "ref.go:52", after := #[{ on := 3, ground := Go.Ground.data }], guard := none }) rfl (fun K hK => ?_) (AllReadyH.nil)
      go_simp
      refine (C1.out _).mono ?_
      rintro e w7 ⟨rfl, rfl⟩
      go_simp
      refine hK.out _ _ ?_ (fun hHeld => ?_)
      · exact hHeld
      clear hK K
      try simp only [Act.put, List.setIfInBounds_toArray, List.set_cons_zero, List.set_cons_succ]
      refine wpAnyH_ready (rs := [7]) (by kernel_rfl) (by simp) ?_
      refine AllReadyH.cons (o := { dst := some 120, op := Go.Op.call { callee := Go.Callee.value (Go.Operand.func 25), args := #[Go.Operand.tmp 119, Go.Operand.const (Go.Value.int Go.IntKind.i64 21)], argTypes := #[39, 3] }, type := 39, pos := "ref.go:52", after := #[{ on := 6, ground := Go.Ground.data }, { on := 4, ground := Go.Ground.chain }], guard := none }) rfl (fun K hK => ?_) (AllReadyH.nil)
      go_simp
      refine (C2.out _).mono ?_
      rintro e w7 ⟨rfl, rfl⟩
      go_simp
      refine hK.out _ _ ?_ (fun hHeld => ?_)
      · exact hHeld
      clear hK K
      try simp only [Act.put, List.setIfInBounds_toArray, List.set_cons_zero, List.set_cons_succ]
      refine wpAnyH_take (i := 8) (oi := { dst := some 121, op := Go.Op.binOp Go.BinOp.xor 39 (Go.Operand.tmp 117) (Go.Operand.tmp 120) 39, type := 39, pos := "ref.go:52", after := #[{ on := 4, ground := Go.Ground.data }, { on := 7, ground := Go.Ground.data }], guard := none }) (v := ?a_4_7v8) rfl (by kernel_rfl) (by kernel_rfl) (by kernel_rfl) (fun _ _ _ h => hPan _ _ _ _ _ h) (Or.inl ⟨by rfl, ?a_4_7y8⟩) (by assumption) ?a_4_7r8
      case a_4_7y8 => (intro w hSw; (try dsimp only at hSw); go_simp; try (with_reducible rfl))
      case a_4_7r8 =>
      try simp only [Act.put, List.setIfInBounds_toArray, List.set_cons_zero, List.set_cons_succ]
      refine wpAnyH_ready (rs := [11]) (by kernel_rfl) (by simp) ?_
      refine AllReadyH.cons (o := { dst := some 124, op := Go.Op.call { callee := Go.Callee.value (Go.Operand.func 25), args := #[Go.Operand.tmp 123, Go.Operand.const (Go.Value.int Go.IntKind.i64 7)], argTypes := #[39, 3] }, type := 39, pos := "ref.go:52", after := #[{ on := 10, ground := Go.Ground.data }, { on := 7, ground := Go.Ground.chain }], guard := none }) rfl (fun K hK => ?_) (AllReadyH.nil)
      go_simp
      refine (C3.out _).mono ?_
      rintro e w7 ⟨rfl, rfl⟩
      go_simp
      refine hK.out _ _ ?_ (fun hHeld => ?_)
      · exact hHeld
      clear hK K
      try simp only [Act.put, List.setIfInBounds_toArray, List.set_cons_zero, List.set_cons_succ]
      refine wpAnyH_take (i := 12) (oi := { dst := some 125, op := Go.Op.binOp Go.BinOp.xor 39 (Go.Operand.tmp 121) (Go.Operand.tmp 124) 39, type := 39, pos := "ref.go:52", after := #[{ on := 8, ground := Go.Ground.data }, { on := 11, ground := Go.Ground.data }], guard := none }) (v := ?a_4_7_11v12) rfl (by kernel_rfl) (by kernel_rfl) (by kernel_rfl) (fun _ _ _ h => hPan _ _ _ _ _ h) (Or.inl ⟨by rfl, ?a_4_7_11y12⟩) (by assumption) ?a_4_7_11r12
      case a_4_7_11y12 => (intro w hSw; (try dsimp only at hSw); go_simp; try (with_reducible rfl))
      case a_4_7_11r12 =>
      try simp only [Act.put, List.setIfInBounds_toArray, List.set_cons_zero, List.set_cons_succ]
      refine wpAnyH_take (i := 13) (oi := { dst := some 126, op := Go.Op.binOp Go.BinOp.add 39 (Go.Operand.tmp 114) (Go.Operand.tmp 125) 39, type := 39, pos := "ref.go:52", after := #[{ on := 1, ground := Go.Ground.data }, { on := 12, ground := Go.Ground.data }], guard := none }) (v := ?a_4_7_11v13) rfl (by kernel_rfl) (by kernel_rfl) (by kernel_rfl) (fun _ _ _ h => hPan _ _ _ _ _ h) (Or.inl ⟨by rfl, ?a_4_7_11y13⟩) (by assumption) ?a_4_7_11r13
      case a_4_7_11y13 => (intro w hSw; (try dsimp only at hSw); go_simp; try (with_reducible rfl))
      case a_4_7_11r13 =>
      try simp only [Act.put, List.setIfInBounds_toArray, List.set_cons_zero, List.set_cons_succ]
      refine wpAnyH_take (i := 26) (oi := { dst := some 139, op := Go.Op.binOp Go.BinOp.add 39 (Go.Operand.tmp 126) (Go.Operand.tmp 138) 39, type := 39, pos := "ref.go:52", after := #[{ on := 13, ground := Go.Ground.data }, { on := 25, ground := Go.Ground.data }], guard := none }) (v := ?a_4_7_11v26) rfl (by kernel_rfl) (by kernel_rfl) (by kernel_rfl) (fun _ _ _ h => hPan _ _ _ _ _ h) (Or.inl ⟨by rfl, ?a_4_7_11y26⟩) (by assumption) ?a_4_7_11r26
      case a_4_7_11y26 => (intro w hSw; (try dsimp only at hSw); go_simp; try (with_reducible rfl))
      case a_4_7_11r26 =>
      try simp only [Act.put, List.setIfInBounds_toArray, List.set_cons_zero, List.set_cons_succ]
      refine wpAnyH_take (i := 30) (oi := { dst := some 143, op := Go.Op.binOp Go.BinOp.add 39 (Go.Operand.tmp 139) (Go.Operand.tmp 142) 39, type := 39, pos := "ref.go:52", after := #[{ on := 26, ground := Go.Ground.data }, { on := 29, ground := Go.Ground.data }], guard := none }) (v := ?a_4_7_11v30) rfl (by kernel_rfl) (by kernel_rfl) (by kernel_rfl) (fun _ _ _ h => hPan _ _ _ _ _ h) (Or.inl ⟨by rfl, ?a_4_7_11y30⟩) (by assumption) ?a_4_7_11r30
      case a_4_7_11y30 => (intro w hSw; (try dsimp only at hSw); go_simp; try (with_reducible rfl))
      case a_4_7_11r30 =>
      try simp only [Act.put, List.setIfInBounds_toArray, List.set_cons_zero, List.set_cons_succ]
      refine wpAnyH_take (i := 34) (oi := { dst := some 147, op := Go.Op.binOp Go.BinOp.add 39 (Go.Operand.tmp 143) (Go.Operand.tmp 146) 39, type := 39, pos := "ref.go:52", after := #[{ on := 30, ground := Go.Ground.data }, { on := 33, ground := Go.Ground.data }], guard := none }) (v := ?a_4_7_11v34) rfl (by kernel_rfl) (by kernel_rfl) (by kernel_rfl) (fun _ _ _ h => hPan _ _ _ _ _ h) (Or.inl ⟨by rfl, ?a_4_7_11y34⟩) (by assumption) ?a_4_7_11r34
      case a_4_7_11y34 => (intro w hSw; (try dsimp only at hSw); go_simp; try (with_reducible rfl))
      case a_4_7_11r34 =>
      try simp only [Act.put, List.setIfInBounds_toArray, List.set_cons_zero, List.set_cons_succ]
      refine wpAnyH_take (i := 35) (oi := { dst := some 15, op := Go.Op.assign (Go.Operand.tmp 147), type := 39, pos := "ref.go:52", after := #[{ on := 34, ground := Go.Ground.data }, { on := 11, ground := Go.Ground.chain }, { on := 0, ground := Go.Ground.phase }, { on := 1, ground := Go.Ground.phase }, { on := 2, ground := Go.Ground.phase }, { on := 3, ground := Go.Ground.phase }, { on := 4, ground := Go.Ground.phase }, { on := 5, ground := Go.Ground.phase }, { on := 6, ground := Go.Ground.phase }, { on := 7, ground := Go.Ground.phase }, { on := 8, ground := Go.Ground.phase }, { on := 9, ground := Go.Ground.phase }, { on := 10, ground := Go.Ground.phase }, { on := 11, ground := Go.Ground.phase }, { on := 12, ground := Go.Ground.phase }, { on := 13, ground := Go.Ground.phase }, { on := 14, ground := Go.Ground.phase }, { on := 15, ground := Go.Ground.phase }, { on := 16, ground := Go.Ground.phase }, { on := 17, ground := Go.Ground.phase }, { on := 18, ground := Go.Ground.phase }, { on := 19, ground := Go.Ground.phase }, { on := 20, ground := Go.Ground.phase }, { on := 21, ground := Go.Ground.phase }, { on := 22, ground := Go.Ground.phase }, { on := 23, ground := Go.Ground.phase }, { on := 24, ground := Go.Ground.phase }, { on := 25, ground := Go.Ground.phase }, { on := 26, ground := Go.Ground.phase }, { on := 27, ground := Go.Ground.phase }, { on := 28, ground := Go.Ground.phase }, { on := 29, ground := Go.Ground.phase }, { on := 30, ground := Go.Ground.phase }, { on := 31, ground := Go.Ground.phase }, { on := 32, ground := Go.Ground.phase }, { on := 33, ground := Go.Ground.phase }, { on := 34, ground := Go.Ground.phase }], guard := none }) (v := ?a_4_7_11v35) rfl (by kernel_rfl) (by kernel_rfl) (by kernel_rfl) (fun _ _ _ h => hPan _ _ _ _ _ h) (Or.inl ⟨by rfl, ?a_4_7_11y35⟩) (by assumption) ?a_4_7_11r35
      case a_4_7_11y35 => (intro w hSw; (try dsimp only at hSw); go_simp; try (with_reducible rfl))
      case a_4_7_11r35 =>
      try simp only [Act.put, List.setIfInBounds_toArray, List.set_cons_zero, List.set_cons_succ]
      refine wpAnyH_done (by kernel_rfl) ?_ _
      obtain ⟨T1, hT1⟩ : ∃ z, z = add32 (add32 (add32 (add32 s.h (big1 s.e)) (ch32 s.e s.f s.g)) kk) x := ⟨_, rfl⟩
      have eT1 : IntKind.u32.wrap (IntKind.u32.wrap (IntKind.u32.wrap (IntKind.u32.wrap (s.h + bits .xor .u32 (bits .xor .u32 (rot32 26 s.e) (rot32 21 s.e)) (rot32 7 s.e)) + bits .xor .u32 (bits .and .u32 s.e s.f) (bits .and .u32 (bits .xor .u32 (if IntKind.u32.signed = true then -1 else IntKind.u32.max) s.e) s.g)) + kk) + x) = T1 := by
        rw [hT1]
        simp only [u32_wrap]
        rfl
      rw [eT1]
      have HT1 := Lib.hid hT1
      clear eT1 hT1
      generalize bits .xor .u32 (if IntKind.u32.signed = true then -1 else IntKind.u32.max) s.e = NE
      generalize bits .and .u32 NE s.g = NG
      generalize bits .and .u32 s.e s.f = EF
      generalize bits .xor .u32 EF NG = CH
      generalize bits .xor .u32 (rot32 26 s.e) (rot32 21 s.e) = B1
      generalize bits .xor .u32 B1 (rot32 7 s.e) = B2
      generalize IntKind.u32.wrap (s.h + B2) = A1
      generalize IntKind.u32.wrap (A1 + CH) = A2
      generalize IntKind.u32.wrap (A2 + kk) = A3
      obtain ⟨wd1, hwd1⟩ : ∃ z, z = wr.drew := ⟨_, rfl⟩
      rw [← hwd1]
      have o0 : wd1.cell? ⟨V, 0, none⟩ = some (.int .u32 s.a) := by rw [hwd1]; exact m0
      have o1 : wd1.cell? ⟨V, 1, none⟩ = some (.int .u32 s.b) := by rw [hwd1]; exact m1
      have o2 : wd1.cell? ⟨V, 2, none⟩ = some (.int .u32 s.c) := by rw [hwd1]; exact m2
      have HR1 := Lib.hid (show IRow wd1 V 40 .u32 s.list by rw [hwd1]; exact HROW.out)
      have HB1 := Lib.hid (show Below V w6 wd1 by rw [hwd1]; exact HBEL.out.drew)
      clear hwd1 hHeld m0 m1 m2 m3 m4 m5 m6 m7 kc wc HROW HBEL C1 C2 C3
      go_wp2_with fail
      refine wp_region_held_drew (S := (fun w' => w'.cell? ⟨V, 0, none⟩ = some (.int .u32 s.a) ∧ w'.cell? ⟨V, 1, none⟩ = some (.int .u32 s.b) ∧ w'.cell? ⟨V, 2, none⟩ = some (.int .u32 s.c))) (by kernel_rfl) ?_ (fun hHeld => ?_)
      · exact ⟨o0, o1, o2⟩
      refine wpAnyH_take (i := 0) (oi := { dst := some 148, op := Go.Op.indexAddr 40 (Go.Operand.tmp 13) (Go.Operand.const (Go.Value.int Go.IntKind.i64 0)), type := 0, pos := "ref.go:53", after := #[], guard := none }) (v := ?bv0) rfl (by kernel_rfl) (by kernel_rfl) (by kernel_rfl) (fun _ _ _ h => hPan _ _ _ _ _ h) (Or.inl ⟨by rfl, ?by0⟩) (by assumption) ?br0
      case by0 => (intro w hSw; (try dsimp only at hSw); go_simp; try (with_reducible rfl))
      case br0 =>
      try simp only [Act.put, List.setIfInBounds_toArray, List.set_cons_zero, List.set_cons_succ]
      refine wpAnyH_take (i := 1) (oi := { dst := some 149, op := Go.Op.load 39 (Go.Operand.tmp 148), type := 39, pos := "ref.go:53", after := #[{ on := 0, ground := Go.Ground.data }], guard := none }) (v := ?bv1) rfl (by kernel_rfl) (by kernel_rfl) (by kernel_rfl) (fun _ _ _ h => hPan _ _ _ _ _ h) (Or.inl ⟨by rfl, ?by1⟩) (by assumption) ?br1
      case by1 => (intro w hSw; (try dsimp only at hSw); go_simp; try (with_reducible rfl))
      case br1 =>
      try simp only [Act.put, List.setIfInBounds_toArray, List.set_cons_zero, List.set_cons_succ]
      refine wpAnyH_take (i := 3) (oi := { dst := some 151, op := Go.Op.indexAddr 40 (Go.Operand.tmp 13) (Go.Operand.const (Go.Value.int Go.IntKind.i64 0)), type := 0, pos := "ref.go:53", after := #[], guard := none }) (v := ?bv3) rfl (by kernel_rfl) (by kernel_rfl) (by kernel_rfl) (fun _ _ _ h => hPan _ _ _ _ _ h) (Or.inl ⟨by rfl, ?by3⟩) (by assumption) ?br3
      case by3 => (intro w hSw; (try dsimp only at hSw); go_simp; try (with_reducible rfl))
      case br3 =>
      try simp only [Act.put, List.setIfInBounds_toArray, List.set_cons_zero, List.set_cons_succ]
      refine wpAnyH_take (i := 4) (oi := { dst := some 152, op := Go.Op.load 39 (Go.Operand.tmp 151), type := 39, pos := "ref.go:53", after := #[{ on := 3, ground := Go.Ground.data }], guard := none }) (v := ?bv4) rfl (by kernel_rfl) (by kernel_rfl) (by kernel_rfl) (fun _ _ _ h => hPan _ _ _ _ _ h) (Or.inl ⟨by rfl, ?by4⟩) (by assumption) ?br4
      case by4 => (intro w hSw; (try dsimp only at hSw); go_simp; try (with_reducible rfl))
      case br4 =>
      try simp only [Act.put, List.setIfInBounds_toArray, List.set_cons_zero, List.set_cons_succ]
      refine wpAnyH_take (i := 7) (oi := { dst := some 155, op := Go.Op.indexAddr 40 (Go.Operand.tmp 13) (Go.Operand.const (Go.Value.int Go.IntKind.i64 0)), type := 0, pos := "ref.go:53", after := #[], guard := none }) (v := ?bv7) rfl (by kernel_rfl) (by kernel_rfl) (by kernel_rfl) (fun _ _ _ h => hPan _ _ _ _ _ h) (Or.inl ⟨by rfl, ?by7⟩) (by assumption) ?br7
      case by7 => (intro w hSw; (try dsimp only at hSw); go_simp; try (with_reducible rfl))
      case br7 =>
      try simp only [Act.put, List.setIfInBounds_toArray, List.set_cons_zero, List.set_cons_succ]
      refine wpAnyH_take (i := 8) (oi := { dst := some 156, op := Go.Op.load 39 (Go.Operand.tmp 155), type := 39, pos := "ref.go:53", after := #[{ on := 7, ground := Go.Ground.data }], guard := none }) (v := ?bv8) rfl (by kernel_rfl) (by kernel_rfl) (by kernel_rfl) (fun _ _ _ h => hPan _ _ _ _ _ h) (Or.inl ⟨by rfl, ?by8⟩) (by assumption) ?br8
      case by8 => (intro w hSw; (try dsimp only at hSw); go_simp; try (with_reducible rfl))
      case br8 =>
      try simp only [Act.put, List.setIfInBounds_toArray, List.set_cons_zero, List.set_cons_succ]
      refine wpAnyH_take (i := 11) (oi := { dst := some 159, op := Go.Op.indexAddr 40 (Go.Operand.tmp 13) (Go.Operand.const (Go.Value.int Go.IntKind.i64 0)), type := 0, pos := "ref.go:53", after := #[], guard := none }) (v := ?bv11) rfl (by kernel_rfl) (by kernel_rfl) (by kernel_rfl) (fun _ _ _ h => hPan _ _ _ _ _ h) (Or.inl ⟨by rfl, ?by11⟩) (by assumption) ?br11
      case by11 => (intro w hSw; (try dsimp only at hSw); go_simp; try (with_reducible rfl))
      case br11 =>
      try simp only [Act.put, List.setIfInBounds_toArray, List.set_cons_zero, List.set_cons_succ]
      refine wpAnyH_take (i := 12) (oi := { dst := some 160, op := Go.Op.load 39 (Go.Operand.tmp 159), type := 39, pos := "ref.go:53", after := #[{ on := 11, ground := Go.Ground.data }], guard := none }) (v := ?bv12) rfl (by kernel_rfl) (by kernel_rfl) (by kernel_rfl) (fun _ _ _ h => hPan _ _ _ _ _ h) (Or.inl ⟨by rfl, ?by12⟩) (by assumption) ?br12
      case by12 => (intro w hSw; (try dsimp only at hSw); go_simp; try (with_reducible rfl))
      case br12 =>
      try simp only [Act.put, List.setIfInBounds_toArray, List.set_cons_zero, List.set_cons_succ]
      refine wpAnyH_take (i := 13) (oi := { dst := some 161, op := Go.Op.indexAddr 40 (Go.Operand.tmp 13) (Go.Operand.const (Go.Value.int Go.IntKind.i64 1)), type := 0, pos := "ref.go:53", after := #[], guard := none }) (v := ?bv13) rfl (by kernel_rfl) (by kernel_rfl) (by kernel_rfl) (fun _ _ _ h => hPan _ _ _ _ _ h) (Or.inl ⟨by rfl, ?by13⟩) (by assumption) ?br13
      case by13 => (intro w hSw; (try dsimp only at hSw); go_simp; try (with_reducible rfl))
      case br13 =>
      try simp only [Act.put, List.setIfInBounds_toArray, List.set_cons_zero, List.set_cons_succ]
      refine wpAnyH_take (i := 14) (oi := { dst := some 162, op := Go.Op.load 39 (Go.Operand.tmp 161), type := 39, pos := "ref.go:53", after := #[{ on := 13, ground := Go.Ground.data }], guard := none }) (v := ?bv14) rfl (by kernel_rfl) (by kernel_rfl) (by kernel_rfl) (fun _ _ _ h => hPan _ _ _ _ _ h) (Or.inl ⟨by rfl, ?by14⟩) (by assumption) ?br14
      case by14 => (intro w hSw; (try dsimp only at hSw); go_simp; try (with_reducible rfl))
      case br14 =>
      try simp only [Act.put, List.setIfInBounds_toArray, List.set_cons_zero, List.set_cons_succ]
      refine wpAnyH_take (i := 15) (oi := { dst := some 163, op := Go.Op.binOp Go.BinOp.and 39 (Go.Operand.tmp 160) (Go.Operand.tmp 162) 39, type := 39, pos := "ref.go:53", after := #[{ on := 12, ground := Go.Ground.data }, { on := 14, ground := Go.Ground.data }], guard := none }) (v := ?bv15) rfl (by kernel_rfl) (by kernel_rfl) (by kernel_rfl) (fun _ _ _ h => hPan _ _ _ _ _ h) (Or.inl ⟨by rfl, ?by15⟩) (by assumption) ?br15
      case by15 => (intro w hSw; (try dsimp only at hSw); go_simp; try (with_reducible rfl))
      case br15 =>
      try simp only [Act.put, List.setIfInBounds_toArray, List.set_cons_zero, List.set_cons_succ]
      refine wpAnyH_take (i := 16) (oi := { dst := some 164, op := Go.Op.indexAddr 40 (Go.Operand.tmp 13) (Go.Operand.const (Go.Value.int Go.IntKind.i64 0)), type := 0, pos := "ref.go:53", after := #[], guard := none }) (v := ?bv16) rfl (by kernel_rfl) (by kernel_rfl) (by kernel_rfl) (fun _ _ _ h => hPan _ _ _ _ _ h) (Or.inl ⟨by rfl, ?by16⟩) (by assumption) ?br16
      case by16 => (intro w hSw; (try dsimp only at hSw); go_simp; try (with_reducible rfl))
      case br16 =>
      try simp only [Act.put, List.setIfInBounds_toArray, List.set_cons_zero, List.set_cons_succ]
      refine wpAnyH_take (i := 17) (oi := { dst := some 165, op := Go.Op.load 39 (Go.Operand.tmp 164), type := 39, pos := "ref.go:53", after := #[{ on := 16, ground := Go.Ground.data }], guard := none }) (v := ?bv17) rfl (by kernel_rfl) (by kernel_rfl) (by kernel_rfl) (fun _ _ _ h => hPan _ _ _ _ _ h) (Or.inl ⟨by rfl, ?by17⟩) (by assumption) ?br17
      case by17 => (intro w hSw; (try dsimp only at hSw); go_simp; try (with_reducible rfl))
      case br17 =>
      try simp only [Act.put, List.setIfInBounds_toArray, List.set_cons_zero, List.set_cons_succ]
      refine wpAnyH_take (i := 18) (oi := { dst := some 166, op := Go.Op.indexAddr 40 (Go.Operand.tmp 13) (Go.Operand.const (Go.Value.int Go.IntKind.i64 2)), type := 0, pos := "ref.go:53", after := #[], guard := none }) (v := ?bv18) rfl (by kernel_rfl) (by kernel_rfl) (by kernel_rfl) (fun _ _ _ h => hPan _ _ _ _ _ h) (Or.inl ⟨by rfl, ?by18⟩) (by assumption) ?br18
      case by18 => (intro w hSw; (try dsimp only at hSw); go_simp; try (with_reducible rfl))
      case br18 =>
      try simp only [Act.put, List.setIfInBounds_toArray, List.set_cons_zero, List.set_cons_succ]
      refine wpAnyH_take (i := 19) (oi := { dst := some 167, op := Go.Op.load 39 (Go.Operand.tmp 166), type := 39, pos := "ref.go:53", after := #[{ on := 18, ground := Go.Ground.data }], guard := none }) (v := ?bv19) rfl (by kernel_rfl) (by kernel_rfl) (by kernel_rfl) (fun _ _ _ h => hPan _ _ _ _ _ h) (Or.inl ⟨by rfl, ?by19⟩) (by assumption) ?br19
      case by19 => (intro w hSw; (try dsimp only at hSw); go_simp; try (with_reducible rfl))
      case br19 =>
      try simp only [Act.put, List.setIfInBounds_toArray, List.set_cons_zero, List.set_cons_succ]
      refine wpAnyH_take (i := 20) (oi := { dst := some 168, op := Go.Op.binOp Go.BinOp.and 39 (Go.Operand.tmp 165) (Go.Operand.tmp 167) 39, type := 39, pos := "ref.go:53", after := #[{ on := 17, ground := Go.Ground.data }, { on := 19, ground := Go.Ground.data }], guard := none }) (v := ?bv20) rfl (by kernel_rfl) (by kernel_rfl) (by kernel_rfl) (fun _ _ _ h => hPan _ _ _ _ _ h) (Or.inl ⟨by rfl, ?by20⟩) (by assumption) ?br20
      case by20 => (intro w hSw; (try dsimp only at hSw); go_simp; try (with_reducible rfl))
      case br20 =>
      try simp only [Act.put, List.setIfInBounds_toArray, List.set_cons_zero, List.set_cons_succ]
      refine wpAnyH_take (i := 21) (oi := { dst := some 169, op := Go.Op.binOp Go.BinOp.xor 39 (Go.Operand.tmp 163) (Go.Operand.tmp 168) 39, type := 39, pos := "ref.go:53", after := #[{ on := 15, ground := Go.Ground.data }, { on := 20, ground := Go.Ground.data }], guard := none }) (v := ?bv21) rfl (by kernel_rfl) (by kernel_rfl) (by kernel_rfl) (fun _ _ _ h => hPan _ _ _ _ _ h) (Or.inl ⟨by rfl, ?by21⟩) (by assumption) ?br21
      case by21 => (intro w hSw; (try dsimp only at hSw); go_simp; try (with_reducible rfl))
      case br21 =>
      try simp only [Act.put, List.setIfInBounds_toArray, List.set_cons_zero, List.set_cons_succ]
      refine wpAnyH_take (i := 22) (oi := { dst := some 170, op := Go.Op.indexAddr 40 (Go.Operand.tmp 13) (Go.Operand.const (Go.Value.int Go.IntKind.i64 1)), type := 0, pos := "ref.go:53", after := #[], guard := none }) (v := ?bv22) rfl (by kernel_rfl) (by kernel_rfl) (by kernel_rfl) (fun _ _ _ h => hPan _ _ _ _ _ h) (Or.inl ⟨by rfl, ?by22⟩) (by assumption) ?br22
      case by22 => (intro w hSw; (try dsimp only at hSw); go_simp; try (with_reducible rfl))
      case br22 =>
      try simp only [Act.put, List.setIfInBounds_toArray, List.set_cons_zero, List.set_cons_succ]
      refine wpAnyH_take (i := 23) (oi := { dst := some 171, op := Go.Op.load 39 (Go.Operand.tmp 170), type := 39, pos := "ref.go:53", after := #[{ on := 22, ground := Go.Ground.data }], guard := none }) (v := ?bv23) rfl (by kernel_rfl) (by kernel_rfl) (by kernel_rfl) (fun _ _ _ h => hPan _ _ _ _ _ h) (Or.inl ⟨by rfl, ?by23⟩) (by assumption) ?br23
      case by23 => (intro w hSw; (try dsimp only at hSw); go_simp; try (with_reducible rfl))
      case br23 =>
      try simp only [Act.put, List.setIfInBounds_toArray, List.set_cons_zero, List.set_cons_succ]
      refine wpAnyH_take (i := 24) (oi := { dst := some 172, op := Go.Op.indexAddr 40 (Go.Operand.tmp 13) (Go.Operand.const (Go.Value.int Go.IntKind.i64 2)), type := 0, pos := "ref.go:53", after := #[], guard := none }) (v := ?bv24) rfl (by kernel_rfl) (by kernel_rfl) (by kernel_rfl) (fun _ _ _ h => hPan _ _ _ _ _ h) (Or.inl ⟨by rfl, ?by24⟩) (by assumption) ?br24
      case by24 => (intro w hSw; (try dsimp only at hSw); go_simp; try (with_reducible rfl))
      case br24 =>
      try simp only [Act.put, List.setIfInBounds_toArray, List.set_cons_zero, List.set_cons_succ]
      refine wpAnyH_take (i := 25) (oi := { dst := some 173, op := Go.Op.load 39 (Go.Operand.tmp 172), type := 39, pos := "ref.go:53", after := #[{ on := 24, ground := Go.Ground.data }], guard := none }) (v := ?bv25) rfl (by kernel_rfl) (by kernel_rfl) (by kernel_rfl) (fun _ _ _ h => hPan _ _ _ _ _ h) (Or.inl ⟨by rfl, ?by25⟩) (by assumption) ?br25
      case by25 => (intro w hSw; (try dsimp only at hSw); go_simp; try (with_reducible rfl))
      case br25 =>
      try simp only [Act.put, List.setIfInBounds_toArray, List.set_cons_zero, List.set_cons_succ]
      refine wpAnyH_take (i := 26) (oi := { dst := some 174, op := Go.Op.binOp Go.BinOp.and 39 (Go.Operand.tmp 171) (Go.Operand.tmp 173) 39, type := 39, pos := "ref.go:53", after := #[{ on := 23, ground := Go.Ground.data }, { on := 25, ground := Go.Ground.data }], guard := none }) (v := ?bv26) rfl (by kernel_rfl) (by kernel_rfl) (by kernel_rfl) (fun _ _ _ h => hPan _ _ _ _ _ h) (Or.inl ⟨by rfl, ?by26⟩) (by assumption) ?br26
      case by26 => (intro w hSw; (try dsimp only at hSw); go_simp; try (with_reducible rfl))
      case br26 =>
      try simp only [Act.put, List.setIfInBounds_toArray, List.set_cons_zero, List.set_cons_succ]
      refine wpAnyH_take (i := 27) (oi := { dst := some 175, op := Go.Op.binOp Go.BinOp.xor 39 (Go.Operand.tmp 169) (Go.Operand.tmp 174) 39, type := 39, pos := "ref.go:53", after := #[{ on := 21, ground := Go.Ground.data }, { on := 26, ground := Go.Ground.data }], guard := none }) (v := ?bv27) rfl (by kernel_rfl) (by kernel_rfl) (by kernel_rfl) (fun _ _ _ h => hPan _ _ _ _ _ h) (Or.inl ⟨by rfl, ?by27⟩) (by assumption) ?br27
      case by27 => (intro w hSw; (try dsimp only at hSw); go_simp; try (with_reducible rfl))
      case br27 =>
      try simp only [Act.put, List.setIfInBounds_toArray, List.set_cons_zero, List.set_cons_succ]
      refine wpAnyH_ready (rs := [2]) (by kernel_rfl) (by simp) ?_
      refine AllReadyH.cons (o := { dst := some 150, op := Go.Op.call { callee := Go.Callee.value (Go.Operand.func 25), args := #[Go.Operand.tmp 149, Go.Operand.const (Go.Value.int Go.IntKind.i64 30)], argTypes := #[39, 3] }, type := 39, pos := "ref.go:53", after := #[{ on := 1, ground := Go.Ground.data }], guard := none }) rfl (fun K hK => ?_) (AllReadyH.nil)
      go_simp
      refine (C4.out _).mono ?_
      rintro e w7 ⟨rfl, rfl⟩
      go_simp
      refine hK.out _ _ ?_ (fun hHeld => ?_)
      · exact hHeld
      clear hK K
      try simp only [Act.put, List.setIfInBounds_toArray, List.set_cons_zero, List.set_cons_succ]
      refine wpAnyH_ready (rs := [5]) (by kernel_rfl) (by simp) ?_
      refine AllReadyH.cons (o := { dst := some 153, op := Go.Op.call { callee := Go.Callee.value (Go.Operand.func 25), args := #[Go.Operand.tmp 152, Go.Operand.const (Go.Value.int Go.IntKind.i64 19)], argTypes := #[39, 3] }, type := 39, pos := "ref.go:53", after := #[{ on := 4, ground := Go.Ground.data }, { on := 2, ground := Go.Ground.chain }], guard := none }) rfl (fun K hK => ?_) (AllReadyH.nil)
      go_simp
      refine (C5.out _).mono ?_
      rintro e w7 ⟨rfl, rfl⟩
      go_simp
      refine hK.out _ _ ?_ (fun hHeld => ?_)
      · exact hHeld
      clear hK K
      try simp only [Act.put, List.setIfInBounds_toArray, List.set_cons_zero, List.set_cons_succ]
      refine wpAnyH_take (i := 6) (oi := { dst := some 154, op := Go.Op.binOp Go.BinOp.xor 39 (Go.Operand.tmp 150) (Go.Operand.tmp 153) 39, type := 39, pos := "ref.go:53", after := #[{ on := 2, ground := Go.Ground.data }, { on := 5, ground := Go.Ground.data }], guard := none }) (v := ?b_2_5v6) rfl (by kernel_rfl) (by kernel_rfl) (by kernel_rfl) (fun _ _ _ h => hPan _ _ _ _ _ h) (Or.inl ⟨by rfl, ?b_2_5y6⟩) (by assumption) ?b_2_5r6
      case b_2_5y6 => (intro w hSw; (try dsimp only at hSw); go_simp; try (with_reducible rfl))
      case b_2_5r6 =>
      try simp only [Act.put, List.setIfInBounds_toArray, List.set_cons_zero, List.set_cons_succ]
      refine wpAnyH_ready (rs := [9]) (by kernel_rfl) (by simp) ?_
      refine AllReadyH.cons (o := { dst := some 157, op := Go.Op.call { callee := Go.Callee.value (Go.Operand.func 25), args := #[Go.Operand.tmp 156, Go.Operand.const (Go.Value.int Go.IntKind.i64 10)], argTypes := #[39, 3] }, type := 39, pos := "ref.go:53", after := #[{ on := 8, ground := Go.Ground.data }, { on := 5, ground := Go.Ground.chain }], guard := none }) rfl (fun K hK => ?_) (AllReadyH.nil)
      go_simp
      refine (C6.out _).mono ?_
      rintro e w7 ⟨rfl, rfl⟩
      go_simp
      refine hK.out _ _ ?_ (fun hHeld => ?_)
      · exact hHeld
      clear hK K
      try simp only [Act.put, List.setIfInBounds_toArray, List.set_cons_zero, List.set_cons_succ]
      refine wpAnyH_take (i := 10) (oi := { dst := some 158, op := Go.Op.binOp Go.BinOp.xor 39 (Go.Operand.tmp 154) (Go.Operand.tmp 157) 39, type := 39, pos := "ref.go:53", after := #[{ on := 6, ground := Go.Ground.data }, { on := 9, ground := Go.Ground.data }], guard := none }) (v := ?b_2_5_9v10) rfl (by kernel_rfl) (by kernel_rfl) (by kernel_rfl) (fun _ _ _ h => hPan _ _ _ _ _ h) (Or.inl ⟨by rfl, ?b_2_5_9y10⟩) (by assumption) ?b_2_5_9r10
      case b_2_5_9y10 => (intro w hSw; (try dsimp only at hSw); go_simp; try (with_reducible rfl))
      case b_2_5_9r10 =>
      try simp only [Act.put, List.setIfInBounds_toArray, List.set_cons_zero, List.set_cons_succ]
      refine wpAnyH_take (i := 28) (oi := { dst := some 176, op := Go.Op.binOp Go.BinOp.add 39 (Go.Operand.tmp 158) (Go.Operand.tmp 175) 39, type := 39, pos := "ref.go:53", after := #[{ on := 10, ground := Go.Ground.data }, { on := 27, ground := Go.Ground.data }], guard := none }) (v := ?b_2_5_9v28) rfl (by kernel_rfl) (by kernel_rfl) (by kernel_rfl) (fun _ _ _ h => hPan _ _ _ _ _ h) (Or.inl ⟨by rfl, ?b_2_5_9y28⟩) (by assumption) ?b_2_5_9r28
      case b_2_5_9y28 => (intro w hSw; (try dsimp only at hSw); go_simp; try (with_reducible rfl))
      case b_2_5_9r28 =>
      try simp only [Act.put, List.setIfInBounds_toArray, List.set_cons_zero, List.set_cons_succ]
      refine wpAnyH_take (i := 29) (oi := { dst := some 16, op := Go.Op.assign (Go.Operand.tmp 176), type := 39, pos := "ref.go:53", after := #[{ on := 28, ground := Go.Ground.data }, { on := 9, ground := Go.Ground.chain }, { on := 0, ground := Go.Ground.phase }, { on := 1, ground := Go.Ground.phase }, { on := 2, ground := Go.Ground.phase }, { on := 3, ground := Go.Ground.phase }, { on := 4, ground := Go.Ground.phase }, { on := 5, ground := Go.Ground.phase }, { on := 6, ground := Go.Ground.phase }, { on := 7, ground := Go.Ground.phase }, { on := 8, ground := Go.Ground.phase }, { on := 9, ground := Go.Ground.phase }, { on := 10, ground := Go.Ground.phase }, { on := 11, ground := Go.Ground.phase }, { on := 12, ground := Go.Ground.phase }, { on := 13, ground := Go.Ground.phase }, { on := 14, ground := Go.Ground.phase }, { on := 15, ground := Go.Ground.phase }, { on := 16, ground := Go.Ground.phase }, { on := 17, ground := Go.Ground.phase }, { on := 18, ground := Go.Ground.phase }, { on := 19, ground := Go.Ground.phase }, { on := 20, ground := Go.Ground.phase }, { on := 21, ground := Go.Ground.phase }, { on := 22, ground := Go.Ground.phase }, { on := 23, ground := Go.Ground.phase }, { on := 24, ground := Go.Ground.phase }, { on := 25, ground := Go.Ground.phase }, { on := 26, ground := Go.Ground.phase }, { on := 27, ground := Go.Ground.phase }, { on := 28, ground := Go.Ground.phase }], guard := none }) (v := ?b_2_5_9v29) rfl (by kernel_rfl) (by kernel_rfl) (by kernel_rfl) (fun _ _ _ h => hPan _ _ _ _ _ h) (Or.inl ⟨by rfl, ?b_2_5_9y29⟩) (by assumption) ?b_2_5_9r29
      case b_2_5_9y29 => (intro w hSw; (try dsimp only at hSw); go_simp; try (with_reducible rfl))
      case b_2_5_9r29 =>
      try simp only [Act.put, List.setIfInBounds_toArray, List.set_cons_zero, List.set_cons_succ]
      refine wpAnyH_done (by kernel_rfl) ?_ _
      obtain ⟨T2, hT2⟩ : ∃ z, z = add32 (big0 s.a) (maj32 s.a s.b s.c) := ⟨_, rfl⟩
      have eT2 : IntKind.u32.wrap (bits .xor .u32 (bits .xor .u32 (rot32 30 s.a) (rot32 19 s.a)) (rot32 10 s.a) + bits .xor .u32 (bits .xor .u32 (bits .and .u32 s.a s.b) (bits .and .u32 s.a s.c)) (bits .and .u32 s.b s.c)) = T2 := by
        rw [hT2]
        simp only [u32_wrap]
        rfl
      rw [eT2]
      have HT2 := Lib.hid hT2
      clear eT2 hT2
      generalize bits .xor .u32 (rot32 30 s.a) (rot32 19 s.a) = B3
      generalize bits .xor .u32 B3 (rot32 10 s.a) = B4
      generalize bits .and .u32 s.a s.b = M1
      generalize bits .and .u32 s.a s.c = M2
      generalize bits .and .u32 s.b s.c = M3
      generalize bits .xor .u32 M1 M2 = M4
      generalize bits .xor .u32 M4 M3 = M5
      obtain ⟨wd, hwd⟩ : ∃ z, z = wd1.drew := ⟨_, rfl⟩
      rw [← hwd]
      have hr2 : IRow wd V 40 .u32 s.list := by rw [hwd]; exact HR1.out
      have n0 := hr2.cell (i := 0) rfl
      have n1 := hr2.cell (i := 1) rfl
      have n2 := hr2.cell (i := 2) rfl
      have n3 := hr2.cell (i := 3) rfl
      have n4 := hr2.cell (i := 4) rfl
      have n5 := hr2.cell (i := 5) rfl
      have n6 := hr2.cell (i := 6) rfl
      have HR2 := Lib.hid hr2
      have HB2 := Lib.hid (show Below V w6 wd by rw [hwd]; exact HB1.out.drew)
      clear hwd hHeld hr2 o0 o1 o2 HR1 HB1 C4 C5 C6
      go_wp2_with (refine wpList_store_irow rfl 40 (.tmp 13) (.tmp 196) rfl (g := V) (t := 40) (k := .u32) (xs := s.list) (ys := [(T1 + T2) % 4294967296, s.a, s.b, s.c, (s.d + T1) % 4294967296, s.e, s.f, s.g]) rfl rfl HR2.out info_8 rfl ?_)
      have er : (rnd kk x s).list = [(T1 + T2) % 4294967296, s.a, s.b, s.c, (s.d + T1) % 4294967296, s.e, s.f, s.g] := by rw [HT1.out, HT2.out]; rfl
      refine ⟨⟨t + 1, rnd kk x s, by omega, Lib.hid ?_, by go_num, ?_, ?_⟩, by simp [intOf]; omega⟩
      · rw [rounds, ← hst.out, List.getD_eq_getElem?_getD, HK.out, List.getD_eq_getElem?_getD, HX.out]
        rfl
      · rw [er]
        exact setRow_irow (ys := [(T1 + T2) % 4294967296, s.a, s.b, s.c, (s.d + T1) % 4294967296, s.e, s.f, s.g]) HR2.out
      · exact below_setRow HB2.out (Nat.le_refl _) _
    · obtain rfl : t = 64 := by omega
      have e64 : ((64 : Nat) : Int) = 64 := rfl
      rw [e64]
      have HR := Lib.hid (show IRow wr V 40 .u32 (rounds k256 (W64 bs) 64 s0).list by rw [← hst.out]; exact hrow)
      have HBEL := Lib.hid hbel
      clear hrow hbel hst e64 h64 ht
      go_wp2_with fail
      exact HQ.out _ _ _ _ _ _ _ _ _ _ _ _ _ _ _ _ _ _ _ _ _ _ _ _ _ _ _ _ _ _ _ _ _ _ _ _ _ _ _ _ _ _ _ _ _ _ _ _ _ _ _ _ _ _ _ _ _ _ _ _ _ _ _ _ _ _ _ _ _ _ _ _ _ _ _ _ _ _ _ _ _ _ _ _ _ _ _ _ _ _ _ _ HR.out HBEL.out
end Go.Proofs.YtpcopimbnbmkmaaDoor

/-
  The reference's Sum256: what a block adds to the words; and the words as bytes. Conditions: none.
-/
namespace Go.Proofs.YtpcopimbnbmkmaaDoor
open Go.RowKit

set_option maxRecDepth 1000000 in
set_option maxHeartbeats 6400000 in
theorem rb10_any {Q : Exit → Act → World → Prop} (BH V : Nat) (s v : S8) (w7 : World) (hne : V ≠ BH) (rH : IRow w7 BH 40 .u32 s.list) (rV : IRow w7 V 40 .u32 v.list) (u0 u1 u2 u3 u5 u6 u7 u8 u9 u10 u11 u12 u14 u15 u16 u18 u19 u20 u21 u22 u23 u24 u25 u26 u27 u28 u29 u30 u31 u32 u33 u34 u35 u36 u37 u38 u39 u40 u41 u42 u43 u44 u45 u46 u47 u48 u49 u50 u51 u52 u53 u54 u55 u56 u57 u58 u59 u60 u61 u62 u63 u64 u65 u66 u67 u68 u69 u70 u71 u72 u73 u74 u75 u76 u77 u78 u79 u80 u81 u82 u83 u84 u85 u86 u87 u88 u89 u90 u91 u92 u93 u94 u95 u96 u97 u98 u99 u100 u101 u102 u103 u104 u105 u106 u107 u108 u109 u110 u111 u112 u113 u114 u115 u116 u117 u118 u119 u120 u121 u122 u123 u124 u125 u126 u127 u128 u129 u130 u131 u132 u133 u134 u135 u136 u137 u138 u139 u140 u141 u142 u143 u144 u145 u146 u147 u148 u149 u150 u151 u152 u153 u154 u155 u156 u157 u158 u159 u160 u161 u162 u163 u164 u165 u166 u167 u168 u169 u170 u171 u172 u173 u174 u175 u176 u177 u178 u179 u180 u181 u182 u183 u184 u185 u186 u187 u188 u189 u190 u191 u192 u193 u194 u195 u196 u197 u198 u199 u200 u201 u202 u203 u204 u205 u206 u207 u208 u209 u210 u211 u212 u213 u214 u215 u216 u217 u218 u219 u220 u221 u222 u223 u224 u225 u226 u227 : Value)
    (hPan : ∀ (c : List PanicEntry) (a : Act) (d : Tmp) (v : Value) (w : World), Q (.panic c) (a.put (some d) v) w → Q (.panic c) a w)
    (hQ : ∀ (v17 v197 v198 v199 v200 v201 v202 v203 v204 v205 v206 v207 v208 v209 : Value) (w' : World), IRow w' BH 40 .u32 (mix s.list v.list 8) → Turns (· = BH) w7 w' → Q .normal ⟨#[u0, u1, u2, u3, .pointer (some ⟨BH, 0, none⟩), u5, u6, u7, u8, u9, u10, u11, u12, .pointer (some ⟨V, 0, none⟩), u14, u15, u16, v17, u18, u19, u20, u21, u22, u23, u24, u25, u26, u27, u28, u29, u30, u31, u32, u33, u34, u35, u36, u37, u38, u39, u40, u41, u42, u43, u44, u45, u46, u47, u48, u49, u50, u51, u52, u53, u54, u55, u56, u57, u58, u59, u60, u61, u62, u63, u64, u65, u66, u67, u68, u69, u70, u71, u72, u73, u74, u75, u76, u77, u78, u79, u80, u81, u82, u83, u84, u85, u86, u87, u88, u89, u90, u91, u92, u93, u94, u95, u96, u97, u98, u99, u100, u101, u102, u103, u104, u105, u106, u107, u108, u109, u110, u111, u112, u113, u114, u115, u116, u117, u118, u119, u120, u121, u122, u123, u124, u125, u126, u127, u128, u129, u130, u131, u132, u133, u134, u135, u136, u137, u138, u139, u140, u141, u142, u143, u144, u145, u146, u147, u148, u149, u150, u151, u152, u153, u154, u155, u156, u157, u158, u159, u160, u161, u162, u163, u164, u165, u166, u167, u168, u169, u170, u171, u172, u173, u174, u175, u176, u177, u178, u179, u180, u181, u182, u183, u184, u185, u186, u187, u188, u189, u190, u191, u192, u193, u194, u195, u196, v197, v198, v199, v200, v201, v202, v203, v204, v205, v206, v207, v208, v209, u210, u211, u212, u213, u214, u215, u216, u217, u218, u219, u220, u221, u222, u223, u224, u225, u226, u227], []⟩ w') :
    Code.wp Tryd.prog (blkOf 10 Tryd.f9) Q ⟨#[u0, u1, u2, u3, .pointer (some ⟨BH, 0, none⟩), u5, u6, u7, u8, u9, u10, u11, u12, .pointer (some ⟨V, 0, none⟩), u14, u15, u16, .int .i64 0, u18, u19, u20, u21, u22, u23, u24, u25, u26, u27, u28, u29, u30, u31, u32, u33, u34, u35, u36, u37, u38, u39, u40, u41, u42, u43, u44, u45, u46, u47, u48, u49, u50, u51, u52, u53, u54, u55, u56, u57, u58, u59, u60, u61, u62, u63, u64, u65, u66, u67, u68, u69, u70, u71, u72, u73, u74, u75, u76, u77, u78, u79, u80, u81, u82, u83, u84, u85, u86, u87, u88, u89, u90, u91, u92, u93, u94, u95, u96, u97, u98, u99, u100, u101, u102, u103, u104, u105, u106, u107, u108, u109, u110, u111, u112, u113, u114, u115, u116, u117, u118, u119, u120, u121, u122, u123, u124, u125, u126, u127, u128, u129, u130, u131, u132, u133, u134, u135, u136, u137, u138, u139, u140, u141, u142, u143, u144, u145, u146, u147, u148, u149, u150, u151, u152, u153, u154, u155, u156, u157, u158, u159, u160, u161, u162, u163, u164, u165, u166, u167, u168, u169, u170, u171, u172, u173, u174, u175, u176, u177, u178, u179, u180, u181, u182, u183, u184, u185, u186, u187, u188, u189, u190, u191, u192, u193, u194, u195, u196, u197, u198, u199, u200, u201, u202, u203, u204, u205, u206, u207, u208, u209, u210, u211, u212, u213, u214, u215, u216, u217, u218, u219, u220, u221, u222, u223, u224, u225, u226, u227], []⟩ w7 := by
  conv => arg 2; whnf
  have HQ := Lib.hid hQ
  have RH := Lib.hid rH
  have RV := Lib.hid rV
  clear hQ rH rV
  go_wp2_with fail
  go_loopw [17] (fun v17 wr => ∃ i : Nat, i ≤ 8 ∧ v17 = .int .i64 (i : Int) ∧ IRow wr BH 40 .u32 (mix s.list v.list i) ∧ Turns (· = BH) w7 wr) (fun v17 _ => 8 - (intOf v17).toNat)
  case atStart => exact ⟨0, by omega, rfl, RH.out, Turns.refl _ _⟩
  case round =>
    obtain ⟨i, hi, rfl, hrow, htt⟩ := hrel
    by_cases h8 : i < 8
    · obtain ⟨l, hl⟩ : ∃ l, l = s.list.getD i 0 := ⟨_, rfl⟩
      obtain ⟨z, hz⟩ : ∃ z, v.list[i]? = some z := ⟨_, List.getElem?_eq_getElem (by have : v.list.length = 8 := rfl; omega)⟩
      have hat := hrow.cell (mix_at s.list v.list h8)
      rw [← hl] at hat
      have hcv : wr.cell? ⟨V, i, none⟩ = some (.int .u32 z) := (RV.out.turns htt hne).cell hz
      have hset := hrow.set i (add32 (s.list.getD i 0) (v.list.getD i 0))
      have hzd : v.list.getD i 0 = z := by rw [List.getD_eq_getElem?_getD, hz]; rfl
      rw [mix_next _ _ h8, hzd, ← hl] at hset
      have hfr := hrow.free i
      have b8 : (i : Int) < 8 := by omega
      have HSET := Lib.hid (show IRow (wr.setCell ⟨BH, i, none⟩ (.int .u32 (IntKind.u32.wrap (l + z)))) BH 40 .u32 (mix s.list v.list (i + 1)) by rw [u32_wrap]; exact hset)
      have HTT := Lib.hid htt
      clear hl hz hzd hset hrow htt
      go_wp2_with fail
      refine wp_region_held_drew (S := (fun w' => w'.cell? ⟨V, i, none⟩ = some (.int .u32 z))) (by kernel_rfl) ?_ (fun hHeld => ?_)
      · exact hcv
      refine wpAnyH_take (i := 0) (oi := { dst := some 201, op := Go.Op.move (Go.Operand.tmp 17), type := 3, pos := "ref.go:57", after := #[], guard := none }) (v := ?av0) rfl (by kernel_rfl) (by kernel_rfl) (by kernel_rfl) (fun _ _ _ h => hPan _ _ _ _ _ h) (Or.inl ⟨by rfl, ?ay0⟩) (by assumption) ?ar0
      case ay0 => (intro w hSw; (try dsimp only at hSw); go_simp; try (with_reducible rfl))
      case ar0 =>
      try simp only [Act.put, List.setIfInBounds_toArray, List.set_cons_zero, List.set_cons_succ]
      refine wpAnyH_take (i := 1) (oi := { dst := some 202, op := Go.Op.move (Go.Operand.tmp 17), type := 3, pos := "ref.go:57", after := #[], guard := none }) (v := ?av1) rfl (by kernel_rfl) (by kernel_rfl) (by kernel_rfl) (fun _ _ _ h => hPan _ _ _ _ _ h) (Or.inl ⟨by rfl, ?ay1⟩) (by assumption) ?ar1
      case ay1 => (intro w hSw; (try dsimp only at hSw); go_simp; try (with_reducible rfl))
      case ar1 =>
      try simp only [Act.put, List.setIfInBounds_toArray, List.set_cons_zero, List.set_cons_succ]
      refine wpAnyH_take (i := 2) (oi := { dst := some 203, op := Go.Op.indexAddr 40 (Go.Operand.tmp 4) (Go.Operand.tmp 202), type := 0, pos := "ref.go:57", after := #[{ on := 1, ground := Go.Ground.data }], guard := none }) (v := ?av2) rfl (by kernel_rfl) (by kernel_rfl) (by kernel_rfl) (fun _ _ _ h => hPan _ _ _ _ _ h) (Or.inl ⟨by rfl, ?ay2⟩) (by assumption) ?ar2
      case ay2 => (intro w hSw; (try dsimp only at hSw); go_simp; try (with_reducible rfl))
      case ar2 =>
      try simp only [Act.put, List.setIfInBounds_toArray, List.set_cons_zero, List.set_cons_succ]
      refine wpAnyH_take (i := 4) (oi := { dst := some 205, op := Go.Op.move (Go.Operand.tmp 17), type := 3, pos := "ref.go:57", after := #[], guard := none }) (v := ?av4) rfl (by kernel_rfl) (by kernel_rfl) (by kernel_rfl) (fun _ _ _ h => hPan _ _ _ _ _ h) (Or.inl ⟨by rfl, ?ay4⟩) (by assumption) ?ar4
      case ay4 => (intro w hSw; (try dsimp only at hSw); go_simp; try (with_reducible rfl))
      case ar4 =>
      try simp only [Act.put, List.setIfInBounds_toArray, List.set_cons_zero, List.set_cons_succ]
      refine wpAnyH_take (i := 5) (oi := { dst := some 206, op := Go.Op.indexAddr 40 (Go.Operand.tmp 13) (Go.Operand.tmp 205), type := 0, pos := "ref.go:57", after := #[{ on := 4, ground := Go.Ground.data }], guard := none }) (v := ?av5) rfl (by kernel_rfl) (by kernel_rfl) (by kernel_rfl) (fun _ _ _ h => hPan _ _ _ _ _ h) (Or.inl ⟨by rfl, ?ay5⟩) (by assumption) ?ar5
      case ay5 => (intro w hSw; (try dsimp only at hSw); go_simp; try (with_reducible rfl))
      case ar5 =>
      try simp only [Act.put, List.setIfInBounds_toArray, List.set_cons_zero, List.set_cons_succ]
      refine wpAnyH_take (i := 6) (oi := { dst := some 207, op := Go.Op.load 39 (Go.Operand.tmp 206), type := 39, pos := "ref.go:57", after := #[{ on := 5, ground := Go.Ground.data }], guard := none }) (v := ?av6) rfl (by kernel_rfl) (by kernel_rfl) (by kernel_rfl) (fun _ _ _ h => hPan _ _ _ _ _ h) (Or.inl ⟨by rfl, ?ay6⟩) (by assumption) ?ar6
      case ay6 => (intro w hSw; (try dsimp only at hSw); go_simp; try (with_reducible rfl))
      case ar6 =>
      try simp only [Act.put, List.setIfInBounds_toArray, List.set_cons_zero, List.set_cons_succ]
      refine wpAnyH_ready (rs := [3]) (by kernel_rfl) (by simp) ?_
      refine AllReadyH.cons (o := { dst := some 204, op := Go.Op.load 39 (Go.Operand.tmp 203), type := 39, pos := "ref.go:57", after := #[{ on := 2, ground := Go.Ground.data }], guard := none }) rfl (fun K hK => ?_) (AllReadyH.nil)
      go_simp
      refine hK.out _ _ ?_ (fun hHeld => ?_)
      · exact hHeld
      clear hK K
      try simp only [Act.put, List.setIfInBounds_toArray, List.set_cons_zero, List.set_cons_succ]
      refine wpAnyH_take (i := 7) (oi := { dst := some 208, op := Go.Op.binOp Go.BinOp.add 39 (Go.Operand.tmp 204) (Go.Operand.tmp 207) 39, type := 39, pos := "ref.go:57", after := #[{ on := 3, ground := Go.Ground.data }, { on := 6, ground := Go.Ground.data }], guard := none }) (v := ?a_3v7) rfl (by kernel_rfl) (by kernel_rfl) (by kernel_rfl) (fun _ _ _ h => hPan _ _ _ _ _ h) (Or.inl ⟨by rfl, ?a_3y7⟩) (by assumption) ?a_3r7
      case a_3y7 => (intro w hSw; (try dsimp only at hSw); go_simp; try (with_reducible rfl))
      case a_3r7 =>
      try simp only [Act.put, List.setIfInBounds_toArray, List.set_cons_zero, List.set_cons_succ]
      refine wpAnyH_take (i := 8) (oi := { dst := some 209, op := Go.Op.indexAddr 40 (Go.Operand.tmp 4) (Go.Operand.tmp 201), type := 0, pos := "ref.go:57", after := #[{ on := 0, ground := Go.Ground.data }, { on := 0, ground := Go.Ground.phase }, { on := 1, ground := Go.Ground.phase }, { on := 2, ground := Go.Ground.phase }, { on := 3, ground := Go.Ground.phase }, { on := 4, ground := Go.Ground.phase }, { on := 5, ground := Go.Ground.phase }, { on := 6, ground := Go.Ground.phase }, { on := 7, ground := Go.Ground.phase }], guard := none }) (v := ?a_3v8) rfl (by kernel_rfl) (by kernel_rfl) (by kernel_rfl) (fun _ _ _ h => hPan _ _ _ _ _ h) (Or.inl ⟨by rfl, ?a_3y8⟩) (by assumption) ?a_3r8
      case a_3y8 => (intro w hSw; (try dsimp only at hSw); go_simp; try (with_reducible rfl))
      case a_3r8 =>
      try simp only [Act.put, List.setIfInBounds_toArray, List.set_cons_zero, List.set_cons_succ]
      refine wpAnyH_ready (rs := [9]) (by kernel_rfl) (by simp) ?_
      refine AllReadyH.cons (o := { dst := none, op := Go.Op.store 39 (Go.Operand.tmp 209) (Go.Operand.tmp 208), type := 0, pos := "ref.go:57", after := #[{ on := 8, ground := Go.Ground.data }, { on := 7, ground := Go.Ground.data }, { on := 0, ground := Go.Ground.phase }, { on := 1, ground := Go.Ground.phase }, { on := 2, ground := Go.Ground.phase }, { on := 3, ground := Go.Ground.phase }, { on := 4, ground := Go.Ground.phase }, { on := 5, ground := Go.Ground.phase }, { on := 6, ground := Go.Ground.phase }, { on := 7, ground := Go.Ground.phase }], guard := none }) rfl (fun K hK => ?_) (AllReadyH.nil)
      go_simp
      refine hK.out _ _ ?_ (fun hHeld => ?_)
      · exact (World.cell?_setCell_far wr.drew _ _ _ (by show BH ≠ V; omega)).trans hcv
      clear hK K
      try simp only [Act.put]
      refine wpAnyH_done (by kernel_rfl) ?_ _
      go_wp2_with fail
      have HT2 := HTT.out.setCell (p := ⟨BH, i, none⟩) (fun _ => rfl) (.int .u32 (IntKind.u32.wrap (l + z)))
      exact ⟨⟨i + 1, by omega, by go_num, HSET.out, ⟨HT2.os, HT2.tape, HT2.output, HT2.size, HT2.block⟩⟩, by simp [intOf]; omega⟩
    · obtain rfl : i = 8 := by omega
      have e8 : ((8 : Nat) : Int) = 8 := rfl
      rw [e8]
      have HR := Lib.hid hrow
      have HTT := Lib.hid htt
      clear e8 hrow htt h8
      go_wp2_with fail
      exact HQ.out _ _ _ _ _ _ _ _ _ _ _ _ _ _ _ HR.out HTT.out

set_option maxRecDepth 1000000 in
set_option maxHeartbeats 6400000 in
theorem rb12_any {Q : Exit → Act → World → Prop} (BH G : Nat) (s : S8) (w8 : World) (hok : s.Ok) (hHG : BH < G) (rH : IRow w8 BH 40 .u32 s.list) (rG : IRow w8 G 27 .u8 (List.replicate 32 0)) (u0 u1 u2 u3 u5 u6 u7 u8 u9 u10 u11 u12 u13 u14 u15 u16 u17 u20 u21 u22 u23 u24 u25 u26 u27 u28 u29 u30 u31 u32 u33 u34 u35 u36 u37 u38 u39 u40 u41 u42 u43 u44 u45 u46 u47 u48 u49 u50 u51 u52 u53 u54 u55 u56 u57 u58 u59 u60 u61 u62 u63 u64 u65 u66 u67 u68 u69 u70 u71 u72 u73 u74 u75 u76 u77 u78 u79 u80 u81 u82 u83 u84 u85 u86 u87 u88 u89 u90 u91 u92 u93 u94 u95 u96 u97 u98 u99 u100 u101 u102 u103 u104 u105 u106 u107 u108 u109 u110 u111 u112 u113 u114 u115 u116 u117 u118 u119 u120 u121 u122 u123 u124 u125 u126 u127 u128 u129 u130 u131 u132 u133 u134 u135 u136 u137 u138 u139 u140 u141 u142 u143 u144 u145 u146 u147 u148 u149 u150 u151 u152 u153 u154 u155 u156 u157 u158 u159 u160 u161 u162 u163 u164 u165 u166 u167 u168 u169 u170 u171 u172 u173 u174 u175 u176 u177 u178 u179 u180 u181 u182 u183 u184 u185 u186 u187 u188 u189 u190 u191 u192 u193 u194 u195 u196 u197 u198 u199 u200 u201 u202 u203 u204 u205 u206 u207 u208 u209 u210 u211 u212 u213 u214 u215 u216 u217 u218 u219 u220 u221 u222 u223 u224 u225 u226 u227 : Value)
    (_hPan : ∀ (c : List PanicEntry) (a : Act) (d : Tmp) (v : Value) (w : World), Q (.panic c) (a.put (some d) v) w → Q (.panic c) a w)
    (hQ : ∀ (v19 v210 v211 v212 v213 v214 v215 v216 v217 v218 v219 v220 v221 v222 v223 v224 v225 v226 : Value) (w' : World), IRow w' G 27 .u8 (nums (outB s.list)) → Below G w8 w' → Q .normal ⟨#[u0, u1, u2, u3, .pointer (some ⟨BH, 0, none⟩), u5, u6, u7, u8, u9, u10, u11, u12, u13, u14, u15, u16, u17, .pointer (some ⟨G, 0, none⟩), v19, u20, u21, u22, u23, u24, u25, u26, u27, u28, u29, u30, u31, u32, u33, u34, u35, u36, u37, u38, u39, u40, u41, u42, u43, u44, u45, u46, u47, u48, u49, u50, u51, u52, u53, u54, u55, u56, u57, u58, u59, u60, u61, u62, u63, u64, u65, u66, u67, u68, u69, u70, u71, u72, u73, u74, u75, u76, u77, u78, u79, u80, u81, u82, u83, u84, u85, u86, u87, u88, u89, u90, u91, u92, u93, u94, u95, u96, u97, u98, u99, u100, u101, u102, u103, u104, u105, u106, u107, u108, u109, u110, u111, u112, u113, u114, u115, u116, u117, u118, u119, u120, u121, u122, u123, u124, u125, u126, u127, u128, u129, u130, u131, u132, u133, u134, u135, u136, u137, u138, u139, u140, u141, u142, u143, u144, u145, u146, u147, u148, u149, u150, u151, u152, u153, u154, u155, u156, u157, u158, u159, u160, u161, u162, u163, u164, u165, u166, u167, u168, u169, u170, u171, u172, u173, u174, u175, u176, u177, u178, u179, u180, u181, u182, u183, u184, u185, u186, u187, u188, u189, u190, u191, u192, u193, u194, u195, u196, u197, u198, u199, u200, u201, u202, u203, u204, u205, u206, u207, u208, u209, v210, v211, v212, v213, v214, v215, v216, v217, v218, v219, v220, v221, v222, v223, v224, v225, v226, u227], []⟩ w') :
    Code.wp Tryd.prog (blkOf 12 Tryd.f9) Q ⟨#[u0, u1, u2, u3, .pointer (some ⟨BH, 0, none⟩), u5, u6, u7, u8, u9, u10, u11, u12, u13, u14, u15, u16, u17, .pointer (some ⟨G, 0, none⟩), .int .i64 0, u20, u21, u22, u23, u24, u25, u26, u27, u28, u29, u30, u31, u32, u33, u34, u35, u36, u37, u38, u39, u40, u41, u42, u43, u44, u45, u46, u47, u48, u49, u50, u51, u52, u53, u54, u55, u56, u57, u58, u59, u60, u61, u62, u63, u64, u65, u66, u67, u68, u69, u70, u71, u72, u73, u74, u75, u76, u77, u78, u79, u80, u81, u82, u83, u84, u85, u86, u87, u88, u89, u90, u91, u92, u93, u94, u95, u96, u97, u98, u99, u100, u101, u102, u103, u104, u105, u106, u107, u108, u109, u110, u111, u112, u113, u114, u115, u116, u117, u118, u119, u120, u121, u122, u123, u124, u125, u126, u127, u128, u129, u130, u131, u132, u133, u134, u135, u136, u137, u138, u139, u140, u141, u142, u143, u144, u145, u146, u147, u148, u149, u150, u151, u152, u153, u154, u155, u156, u157, u158, u159, u160, u161, u162, u163, u164, u165, u166, u167, u168, u169, u170, u171, u172, u173, u174, u175, u176, u177, u178, u179, u180, u181, u182, u183, u184, u185, u186, u187, u188, u189, u190, u191, u192, u193, u194, u195, u196, u197, u198, u199, u200, u201, u202, u203, u204, u205, u206, u207, u208, u209, u210, u211, u212, u213, u214, u215, u216, u217, u218, u219, u220, u221, u222, u223, u224, u225, u226, u227], []⟩ w8 := by
  conv => arg 2; whnf
  have HQ := Lib.hid hQ
  have RH := Lib.hid rH
  have RG := Lib.hid rG
  have HOK := Lib.hid hok
  have HOL := Lib.hid (show (nums (outB s.list)).length = 32 by rw [nums_length, outB_length]; rfl)
  clear hQ rH rG hok
  go_wp2_with fail
  go_loopw [19] (fun v19 wr => ∃ i : Nat, i ≤ 32 ∧ v19 = .int .i64 (i : Int) ∧ IRow wr G 27 .u8 (padZ 32 ((nums (outB s.list)).take i)) ∧ Below G w8 wr) (fun v19 _ => 32 - (intOf v19).toNat)
  case atStart => exact ⟨0, by omega, rfl, RG.out, Below.refl _ _⟩
  case round =>
    obtain ⟨i, hi, rfl, hrow, hbel⟩ := hrel
    by_cases h32 : i < 32
    · obtain ⟨q, hq⟩ : ∃ q, q = i / 4 := ⟨_, rfl⟩
      obtain ⟨r, hr⟩ : ∃ r, r = i % 4 := ⟨_, rfl⟩
      obtain ⟨sh, hsh⟩ : ∃ sh, sh = 24 - 8 * r := ⟨_, rfl⟩
      have e1 : (i : Int) / 4 = (q : Int) := by omega
      have e2 : (i : Int) % 4 = (r : Int) := by omega
      have e3 : 24 - 8 * (r : Int) = (sh : Int) := by omega
      have bq : (q : Int) < 8 := by omega
      have bs32 : sh ≤ 24 := by omega
      have b32 : (i : Int) < 32 := by omega
      obtain ⟨x, hx⟩ : ∃ x, s.list[q]? = some x := ⟨_, List.getElem?_eq_getElem (by have : s.list.length = 8 := rfl; omega)⟩
      have hxu : U32 x := S8.mem_ok HOK.out (List.mem_of_getElem? hx)
      have hat := outB_at s.list (i := i) (x := x) (by rw [← hq]; exact hx) hxu
      rw [← hr, ← hsh] at hat
      have hcx : wr.cell? ⟨BH, q, none⟩ = some (.int .u32 x) := (RH.out.below hbel hHG).cell hx
      have htl : ((nums (outB s.list)).take i).length = i := by rw [List.length_take, HOL.out]; omega
      have hcg : wr.cell? ⟨G, i, none⟩ = some (.int .u8 0) := hrow.cell (by have h := padZ_next (n := 32) (l := (nums (outB s.list)).take i) (by omega); rw [htl] at h; exact h)
      have hfg := hrow.free i
      have hset := hrow.set i (x / 2 ^ sh % 256)
      have hpz := padZ_set (n := 32) (l := (nums (outB s.list)).take i) (z := x / 2 ^ sh % 256) (by omega)
      rw [htl] at hpz
      have htk : (nums (outB s.list)).take i ++ [x / 2 ^ sh % 256] = (nums (outB s.list)).take (i + 1) := by rw [List.take_add_one, hat]; rfl
      rw [hpz, htk] at hset
      have HSET := Lib.hid hset
      have HBEL := Lib.hid hbel
      clear hx hxu hat htl hpz htk hset hrow hbel hq hr hsh
      go_wp2_with fail
      
      exact ⟨⟨i + 1, by omega, by go_num, HSET.out, HBEL.out.setCell (p := ⟨G, i, none⟩) (Nat.le_refl _) _⟩, by simp [intOf]; omega⟩
    · obtain rfl : i = 32 := by omega
      have e32 : ((32 : Nat) : Int) = 32 := rfl
      rw [e32]
      rw [List.take_of_length_le (by rw [HOL.out]; omega), padZ_full HOL.out] at hrow
      have HR := Lib.hid hrow
      have HBEL := Lib.hid hbel
      clear e32 hrow hbel h32
      go_wp2_with fail
      exact HQ.out _ _ _ _ _ _ _ _ _ _ _ _ _ _ _ _ _ _ _ HR.out HBEL.out
end Go.Proofs.YtpcopimbnbmkmaaDoor

/-
  The reference's Sum256, walked. Conditions: sizes within the reach.
-/
namespace Go.Proofs.YtpcopimbnbmkmaaDoor
open Go.RowKit

theorem info_h27 : (Tryd.prog.info? 27).map (·.size) = some 32 := by kernel_rfl

set_option maxRecDepth 100000 in
set_option maxHeartbeats 25600000 in
theorem rsum256_any (B : Nat) (x : Value) (m : List UInt8) (W0 : World) (hb : Byt W0 B x m) (hB : B ≤ W0.heap.size) (hl : m.length ≤ 100000) :
    Calls Tryd.prog 9 #[x] W0 fun e w' => e = .returned (digV (sha256 m)) ∧ Below W0.heap.size W0 w' := by
  obtain ⟨A, c, rfl⟩ := hb.form
  have rA := IRow.new W0 27 .u8 (List.replicate 32 0)
  have bA : Below W0.heap.size W0 (W0.alloc (.cells ((List.replicate 32 (0 : Int)).map (Value.int .u8)).toArray 27)) := (Below.refl _ W0).alloc (Nat.le_refl _) _
  have sA : (W0.alloc (.cells ((List.replicate 32 (0 : Int)).map (Value.int .u8)).toArray 27)).heap.size = W0.heap.size + 1 := by simp
  have HB := Lib.hid hb
  clear hb
  go_enter Tryd.func9, Tryd.ntmps9
  go_upto_region 1 with fail
  change Code.wp _ _ _ _ (W0.alloc (.cells ((List.replicate 32 (0 : Int)).map (Value.int .u8)).toArray 27))
  obtain ⟨wA, hwA⟩ : ∃ x, x = W0.alloc (.cells ((List.replicate 32 (0 : Int)).map (Value.int .u8)).toArray 27) := ⟨_, rfl⟩
  rw [← hwA] at rA bA sA ⊢
  obtain ⟨B0, hB0⟩ : ∃ B0, B0 = W0.heap.size := ⟨_, rfl⟩
  rw [← hB0] at rA bA sA ⊢
  have RA := Lib.hid rA
  have BA := Lib.hid bA
  have SA := Lib.hid sA
  have HB0 := Lib.hid hB0
  have RZ := Lib.hid (IRow.new wA 49 .u32 (List.replicate 64 0))
  have HI64 := Lib.hid (show (Tryd.prog.info? 49).map (·.size) = some k256.length from info_64)
  clear hwA rA bA sA hB0
  go_upto_region 2 with (refine wpList_store_irow rfl 49 (.tmp 3) (.tmp 20) rfl (g := wA.heap.size) (t := 49) (k := .u32) (xs := List.replicate 64 0) (ys := k256) rfl rfl RZ.out HI64.out rfl ?_)
  change Code.wp _ _ _ _ ((wA.alloc (.cells ((List.replicate 64 (0 : Int)).map (Value.int .u32)).toArray 49)).setRow wA.heap.size (k256.map (Value.int .u32)).toArray)
  obtain ⟨wB, hwB⟩ : ∃ x, x = (wA.alloc (.cells ((List.replicate 64 (0 : Int)).map (Value.int .u32)).toArray 49)).setRow wA.heap.size (k256.map (Value.int .u32)).toArray := ⟨_, rfl⟩
  rw [← hwB]
  obtain ⟨BK, hBK⟩ : ∃ BK, BK = wA.heap.size := ⟨_, rfl⟩
  have rK : IRow wB BK 49 .u32 k256 := by rw [hwB, hBK]; exact setRow_irow RZ.out
  have bB : Below BK wA wB := by rw [hwB, hBK]; exact below_setRow ((Below.refl _ wA).alloc (Nat.le_refl _) _) (Nat.le_refl _) _
  have sB : wB.heap.size = BK + 1 := by rw [hwB, hBK]; simp [World.setRow]
  rw [← hBK]
  have hk0 : BK = B0 + 1 := by rw [hBK, SA.out]
  have RK := Lib.hid rK
  have SB := Lib.hid sB
  have HK0 := Lib.hid hk0
  have RA2 := Lib.hid (RA.out.below bB (by omega))
  have BB := Lib.hid (BA.out.trans (bB.mono (by omega : B0 ≤ BK)))
  have RZ2 := Lib.hid (IRow.new wB 40 .u32 (List.replicate 8 0))
  have HI8 := Lib.hid (show (Tryd.prog.info? 40).map (·.size) = some start256.list.length from info_8)
  clear hwB hBK rK bB sB hk0 RZ
  try dsimp only [Act.put]
  go_upto_region 3 with (refine wpList_store_irow rfl 40 (.tmp 4) (.tmp 21) rfl (g := wB.heap.size) (t := 40) (k := .u32) (xs := List.replicate 8 0) (ys := start256.list) rfl rfl RZ2.out HI8.out rfl ?_)
  change Code.wp _ _ _ _ ((wB.alloc (.cells ((List.replicate 8 (0 : Int)).map (Value.int .u32)).toArray 40)).setRow wB.heap.size (start256.list.map (Value.int .u32)).toArray)
  obtain ⟨w1, hw1⟩ : ∃ x, x = (wB.alloc (.cells ((List.replicate 8 (0 : Int)).map (Value.int .u32)).toArray 40)).setRow wB.heap.size (start256.list.map (Value.int .u32)).toArray := ⟨_, rfl⟩
  rw [← hw1]
  obtain ⟨BH, hBH⟩ : ∃ BH, BH = wB.heap.size := ⟨_, rfl⟩
  have rH : IRow w1 BH 40 .u32 start256.list := by rw [hw1, hBH]; exact setRow_irow RZ2.out
  have bH : Below BH wB w1 := by rw [hw1, hBH]; exact below_setRow ((Below.refl _ wB).alloc (Nat.le_refl _) _) (Nat.le_refl _) _
  have s1 : w1.heap.size = BH + 1 := by rw [hw1, hBH]; simp [World.setRow]
  rw [← hBH]
  have hh0 : BH = BK + 1 := by rw [hBH, SB.out]
  have hk0 := HK0.out
  have rK := RK.out.below bH (by omega)
  have rA := RA2.out.below bH (by omega)
  have b1 := BB.out.trans (bH.mono (by omega : B0 ≤ BH))
  have C := Lib.hid (fill256_any B _ m w1 (HB.out.below (b1.mono (by rw [HB0.out]; exact hB))) (by have := b1.size; omega) (by omega) (by omega))
  have HH0 := Lib.hid hh0
  have S1 := Lib.hid s1
  have RH := Lib.hid rH
  have RK1 := Lib.hid rK
  have RA1 := Lib.hid rA
  have B1 := Lib.hid b1
  clear hw1 hBH rH bH s1 hh0 hk0 rK rA b1 RZ2 RA2 BB RK
  try dsimp only [Act.put]
  go_wp2_with fail
  refine C.out.mono ?_
  rintro e w2 ⟨v, rfl, hown, hb2⟩
  rw [fillG_256] at hown
  obtain ⟨FM, hF⟩ : ∃ FM, FM = full m := ⟨_, rfl⟩
  rw [← hF] at hown
  obtain ⟨M, hM⟩ : ∃ M, M = FM.length := ⟨_, rfl⟩
  have hMb : M ≤ 100200 := by rw [hM, hF]; unfold full padB lenB; simp; omega
  have hM64 : M % 64 = 0 := by rw [hM, hF]; exact full_blocks m
  have hMp : 0 < M := by rw [hM, hF]; unfold full padB; simp; omega
  obtain ⟨gm, cm, rfl, hgm, hgs, hcm⟩ := hown.block (by omega)
  have hcap : cm ≤ 9223372036854775807 := by
    obtain ⟨_, c', e, _, h2, _⟩ := hown.byt
    injection e with _ _ e3
    subst e3
    unfold maxLen at h2
    exact h2
  have hcell : ∀ (j : Nat) (u : UInt8), FM[j]? = some u → w2.cell? ⟨gm, j, none⟩ = some (bv u) := fun j u hu => hown.cell hu
  have rH := RH.out.below hb2 RH.out.lt
  have rK := RK1.out.below hb2 RK1.out.lt
  have rA := RA1.out.below hb2 RA1.out.lt
  have b2 := B1.out.trans (hb2.mono B1.out.size |>.mono (by have := HB0.out; omega))
  have hgH : BH < gm := by have := S1.out; omega
  rw [← hM] at hcm ⊢
  have HF := Lib.hid hF
  have HM := Lib.hid hM
  have HC := Lib.hid hcell
  have RH2 := Lib.hid rH
  have RK2 := Lib.hid rK
  have RA2 := Lib.hid rA
  have B2 := Lib.hid b2
  have G2 := Lib.hid hgs
  clear hown hb2 hF hM hcell rH rK rA b2 hgs RH RK1 RA1 B1 C
  go_wp2_with fail
  go_loopw [6] (fun v6 wr => ∃ q : Nat, 64 * q ≤ M ∧ v6 = .int .i64 ((64 * q : Nat) : Int) ∧ IRow wr BH 40 .u32 (blocks256 FM q).list ∧ Turns (· = BH) w2 wr) (fun v6 _ => M - (intOf v6).toNat)
  case atStart => exact ⟨0, by omega, rfl, RH2.out, Turns.refl _ _⟩
  case round =>
    obtain ⟨q, hq, rfl, rH, tH⟩ := hrel
    obtain ⟨p, hp⟩ : ∃ p, p = 64 * q := ⟨_, rfl⟩
    rw [← hp]
    obtain ⟨w3, hw3⟩ : ∃ w3 : World, w3 = wr := ⟨_, rfl⟩
    rw [← hw3] at rH tH ⊢
    clear hw3
    have R3 := Lib.hid rH
    have T3 := Lib.hid tH
    have HP := Lib.hid hp
    clear rH tH hp
    by_cases hlt : p < M
    · obtain ⟨bs, hbs⟩ : ∃ bs, bs = (FM.drop (64 * q)).take 64 := ⟨_, rfl⟩
      have hbl : bs.length = 64 := by rw [hbs, List.length_take, List.length_drop, ← HM.out]; have := HP.out; omega
      have hbc : ∀ wx, Turns (· = BH) w2 wx → ∀ (j : Nat) (u : UInt8), bs[j]? = some u → wx.cell? ⟨gm, p + j, none⟩ = some (bv u) := fun wx ht j u hu => by
        refine (ht.cell (p := ⟨gm, p + j, none⟩) G2.out (by show gm ≠ BH; omega)).trans (HC.out _ _ ?_)
        rw [hbs, List.getElem?_take] at hu
        split at hu
        · rw [List.getElem?_drop] at hu; rw [HP.out]; exact hu
        · exact absurd hu (by simp)
      have HBS := Lib.hid hbs
      have HBL := Lib.hid hbl
      have HBC := Lib.hid hbc
      clear hbs hbl hbc
      have rW := IRow.new w3 49 .u32 (List.replicate 64 0)
      have bW : Below w3.heap.size w3 (w3.alloc (.cells ((List.replicate 64 (0 : Int)).map (Value.int .u32)).toArray 49)) := (Below.refl _ w3).alloc (Nat.le_refl _) _
      have RW0 := Lib.hid rW
      have BW0 := Lib.hid bW
      clear rW bW
      go_upto_block 2 with fail
      change Code.wp _ _ _ _ (w3.alloc (.cells ((List.replicate 64 (0 : Int)).map (Value.int .u32)).toArray 49))
      obtain ⟨w4, hw4⟩ : ∃ x, x = w3.alloc (.cells ((List.replicate 64 (0 : Int)).map (Value.int .u32)).toArray 49) := ⟨_, rfl⟩
      rw [← hw4] at RW0 BW0 ⊢
      obtain ⟨W, hW⟩ : ∃ W, W = w3.heap.size := ⟨_, rfl⟩
      rw [← hW] at RW0 BW0 ⊢
      have hWH : BH < W := by have := T3.out.size; have := G2.out; omega
      have hWm : gm < W := by have := T3.out.size; have := G2.out; omega
      have HW := Lib.hid hW
      clear hw4 hW
      try dsimp only [Act.put]
      have hbc4 : ∀ (j : Nat) (u : UInt8), bs[j]? = some u → w4.cell? ⟨gm, p + j, none⟩ = some (bv u) := fun j u hu => (BW0.out.cell (p := ⟨gm, p + j, none⟩) hWm).trans (HBC.out w3 T3.out j u hu)
      refine rb2_any W gm p M cm bs w4 HBL.out (by have := HP.out; omega) hMb hWm RW0.out hbc4 _ _ _ _ _ _ _ _ _ _ _ _ _ _ _ _ _ _ _ _ _ _ _ _ _ _ _ _ _ _ _ _ _ _ _ _ _ _ _ _ _ _ _ _ _ _ _ _ _ _ _ _ _ _ _ _ _ _ _ _ _ _ _ _ _ _ _ _ _ _ _ _ _ _ _ _ _ _ _ _ _ _ _ _ _ _ _ _ _ _ _ _ _ _ _ _ _ _ _ _ _ _ _ _ _ _ _ _ _ _ _ _ _ _ _ _ _ _ _ _ _ _ _ _ _ _ _ _ _ _ _ _ _ _ _ _ _ _ _ _ _ _ _ _ _ _ _ _ _ _ _ _ _ _ _ _ _ _ _ _ _ _ _ _ _ _ _ _ _ _ _ _ _ _ _ _ _ _ _ _ _ _ _ _ _ _ _ _ _ _ _ _ _ _ _ _ _ _ _ _ _ _ _ _ _ _ _ _ _ _ _ _ _ _ _ _ _ _ _ _ _ _ _ _ (fun _ _ _ _ _ h => h) (fun v2_8 v2_9 v2_30 v2_31 v2_32 v2_33 v2_34 v2_35 v2_36 v2_37 v2_38 v2_39 v2_40 v2_41 v2_42 v2_43 v2_44 v2_45 v2_46 v2_47 v2_48 v2_49 v2_50 v2_51 v2_52 v2_53 v2_54 w5 r5 b5 => ?_)
      have R5 := Lib.hid r5
      have B5 := Lib.hid b5
      clear r5 b5 hbc4
      go_upto_block 6 with fail
      refine rb6_any W bs w5 R5.out _ _ _ _ _ _ _ _ _ _ _ _ _ _ _ _ _ _ _ _ _ _ _ _ _ _ _ _ _ _ _ _ _ _ _ _ _ _ _ _ _ _ _ _ _ _ _ _ _ _ _ _ _ _ _ _ _ _ _ _ _ _ _ _ _ _ _ _ _ _ _ _ _ _ _ _ _ _ _ _ _ _ _ _ _ _ _ _ _ _ _ _ _ _ _ _ _ _ _ _ _ _ _ _ _ _ _ _ _ _ _ _ _ _ _ _ _ _ _ _ _ _ _ _ _ _ _ _ _ _ _ _ _ _ _ _ _ _ _ _ _ _ _ _ _ _ _ _ _ _ _ _ _ _ _ _ _ _ _ _ _ _ _ _ _ _ _ _ _ _ _ _ _ _ _ _ _ _ _ _ _ _ _ _ _ _ _ _ _ _ _ _ _ _ _ _ _ _ _ _ _ _ _ _ _ _ _ _ _ _ _ _ _ _ _ _ _ _ _ _ _ _ _ _ _ _ (fun _ _ _ _ _ h => h) (fun v6_10 v6_11 v6_12 v6_55 v6_56 v6_57 v6_58 v6_59 v6_60 v6_61 v6_62 v6_63 v6_64 v6_65 v6_66 v6_67 v6_68 v6_69 v6_70 v6_71 v6_72 v6_73 v6_74 v6_75 v6_76 v6_77 v6_78 v6_79 v6_80 v6_81 v6_82 v6_83 v6_84 v6_85 v6_86 v6_87 v6_88 v6_89 v6_90 v6_91 v6_92 v6_93 v6_94 v6_95 v6_96 v6_97 v6_98 v6_99 v6_100 v6_101 v6_102 v6_103 v6_104 v6_105 v6_106 v6_107 w6 r6 b6 => ?_)
      have hb36 := BW0.out.trans (B5.out.trans b6)
      have t36 : Turns (· = BH) w2 w6 := T3.out.trans (Turns.of_below (S := (· = BH)) (by rw [← HW.out]; exact hb36)) (fun _ _ h => h)
      have R6 := Lib.hid r6
      have RH6 := Lib.hid (R3.out.below hb36 hWH)
      have T6 := Lib.hid t36
      have W6 := Lib.hid (show W < w6.heap.size from r6.lt)
      obtain ⟨sq, hsq⟩ : ∃ sq, sq = blocks256 FM q := ⟨_, rfl⟩
      rw [← hsq] at RH6
      have HSQ := Lib.hid hsq
      have RZ6 := Lib.hid (IRow.new w6 40 .u32 (List.replicate 8 0))
      have HI8q := Lib.hid (show (Tryd.prog.info? 40).map (·.size) = some sq.list.length from info_8)
      clear r6 b6 hb36 t36 hsq
      go_upto_block 8 with (first
        | (refine wpList_load_irow rfl 40 (.tmp 4) rfl (g := BH) (t := 40) (k := .u32) (xs := sq.list) rfl RH6.out Tryd.underlying40 HI8q.out ?_)
        | (refine wpList_store_irow rfl 40 (.tmp 13) (.tmp 108) rfl (g := w6.heap.size) (t := 40) (k := .u32) (xs := List.replicate 8 0) (ys := sq.list) rfl rfl RZ6.out HI8q.out rfl ?_))
      change Code.wp _ _ _ _ ((w6.alloc (.cells ((List.replicate 8 (0 : Int)).map (Value.int .u32)).toArray 40)).setRow w6.heap.size (sq.list.map (Value.int .u32)).toArray)
      obtain ⟨w7, hw7⟩ : ∃ x, x = (w6.alloc (.cells ((List.replicate 8 (0 : Int)).map (Value.int .u32)).toArray 40)).setRow w6.heap.size (sq.list.map (Value.int .u32)).toArray := ⟨_, rfl⟩
      rw [← hw7]
      have r7 : IRow w7 w6.heap.size 40 .u32 sq.list := by rw [hw7]; exact setRow_irow RZ6.out
      have b7 : Below w6.heap.size w6 w7 := by rw [hw7]; exact below_setRow ((Below.refl _ w6).alloc (Nat.le_refl _) _) (Nat.le_refl _) _
      obtain ⟨V, hV⟩ : ∃ V, V = w6.heap.size := ⟨_, rfl⟩
      rw [← hV] at r7 b7 ⊢
      have hVW : W < V := by have := W6.out; omega
      have t7 : Turns (· = BH) w2 w7 := T6.out.trans (Turns.of_below (S := (· = BH)) (by rw [← hV]; exact b7)) (fun _ _ h => h)
      have hBKH : BK < BH := by have := HH0.out; omega
      have rK7 : IRow w7 BK 49 .u32 k256 := RK2.out.turns t7 (by omega)
      have rW7 := R6.out.below b7 hVW
      have rH7 := RH6.out.below b7 (by omega)
      have hoks : sq.Ok := by rw [HSQ.out]; exact blocks256_ok _ _
      have RH7 := Lib.hid rH7
      have T7 := Lib.hid t7
      have V7 := Lib.hid (show V < w7.heap.size from r7.lt)
      try dsimp only [Act.put]
      refine rb8_any BK W V bs sq w7 hoks (by omega) hVW rK7 rW7 r7 _ _ _ _ _ _ _ _ _ _ _ _ _ _ _ _ _ _ _ _ _ _ _ _ _ _ _ _ _ _ _ _ _ _ _ _ _ _ _ _ _ _ _ _ _ _ _ _ _ _ _ _ _ _ _ _ _ _ _ _ _ _ _ _ _ _ _ _ _ _ _ _ _ _ _ _ _ _ _ _ _ _ _ _ _ _ _ _ _ _ _ _ _ _ _ _ _ _ _ _ _ _ _ _ _ _ _ _ _ _ _ _ _ _ _ _ _ _ _ _ _ _ _ _ _ _ _ _ _ _ _ _ _ _ _ _ _ _ _ _ _ _ _ _ _ _ _ _ _ _ _ _ _ _ _ _ _ _ _ _ _ _ _ _ _ _ _ _ _ _ _ _ _ _ _ _ _ _ _ _ _ _ _ _ _ _ _ _ _ _ _ _ _ _ _ _ _ _ _ _ _ _ _ _ _ _ _ _ _ _ _ _ _ _ _ _ _ _ _ _ _ _ _ _ (fun _ _ _ _ _ h => h) (fun v8_14 v8_15 v8_16 v8_109 v8_110 v8_111 v8_112 v8_113 v8_114 v8_115 v8_116 v8_117 v8_118 v8_119 v8_120 v8_121 v8_122 v8_123 v8_124 v8_125 v8_126 v8_127 v8_128 v8_129 v8_130 v8_131 v8_132 v8_133 v8_134 v8_135 v8_136 v8_137 v8_138 v8_139 v8_140 v8_141 v8_142 v8_143 v8_144 v8_145 v8_146 v8_147 v8_148 v8_149 v8_150 v8_151 v8_152 v8_153 v8_154 v8_155 v8_156 v8_157 v8_158 v8_159 v8_160 v8_161 v8_162 v8_163 v8_164 v8_165 v8_166 v8_167 v8_168 v8_169 v8_170 v8_171 v8_172 v8_173 v8_174 v8_175 v8_176 v8_177 v8_178 v8_179 v8_180 v8_181 v8_182 v8_183 v8_184 v8_185 v8_186 v8_187 v8_188 v8_189 v8_190 v8_191 v8_192 v8_193 v8_194 v8_195 v8_196 w8 r8 b8 => ?_)
      have rH8 := RH7.out.below b8 (by omega)
      have h2W : w2.heap.size ≤ W := by rw [HW.out]; exact T3.out.size
      have t8 : Turns (· = BH) w2 w8 := ⟨b8.os.trans T7.out.os, b8.tape.trans T7.out.tape, b8.output.trans T7.out.output, Nat.le_trans T7.out.size b8.size, fun k hk hn => (b8.block k (by omega)).trans (T7.out.block k hk hn)⟩
      obtain ⟨sv, hsv⟩ : ∃ sv, sv = rounds k256 (W64 bs) 64 sq := ⟨_, rfl⟩
      rw [← hsv] at r8
      have R8 := Lib.hid r8
      have RH8 := Lib.hid rH8
      have T8 := Lib.hid t8
      have HSV := Lib.hid hsv
      clear r8 b8 rH8 t8 hsv rK7 rW7 r7 b7 t7 rH7
      go_upto_block 10 with fail
      refine rb10_any BH V sq sv w8 (by omega) RH8.out R8.out _ _ _ _ _ _ _ _ _ _ _ _ _ _ _ _ _ _ _ _ _ _ _ _ _ _ _ _ _ _ _ _ _ _ _ _ _ _ _ _ _ _ _ _ _ _ _ _ _ _ _ _ _ _ _ _ _ _ _ _ _ _ _ _ _ _ _ _ _ _ _ _ _ _ _ _ _ _ _ _ _ _ _ _ _ _ _ _ _ _ _ _ _ _ _ _ _ _ _ _ _ _ _ _ _ _ _ _ _ _ _ _ _ _ _ _ _ _ _ _ _ _ _ _ _ _ _ _ _ _ _ _ _ _ _ _ _ _ _ _ _ _ _ _ _ _ _ _ _ _ _ _ _ _ _ _ _ _ _ _ _ _ _ _ _ _ _ _ _ _ _ _ _ _ _ _ _ _ _ _ _ _ _ _ _ _ _ _ _ _ _ _ _ _ _ _ _ _ _ _ _ _ _ _ _ _ _ _ _ _ _ _ _ _ _ _ _ _ _ _ _ _ _ _ _ (fun _ _ _ _ _ h => h) (fun v10_17 v10_197 v10_198 v10_199 v10_200 v10_201 v10_202 v10_203 v10_204 v10_205 v10_206 v10_207 v10_208 v10_209 w9 r9 t9 => ?_)
      have e9 : mix sq.list sv.list 8 = (blocks256 FM (q + 1)).list := by rw [blocks256, ← HSQ.out, ← HBS.out, HSV.out]; rfl
      rw [e9] at r9
      have R9 := Lib.hid r9
      have T9 := Lib.hid (T8.out.trans t9 (fun _ _ h => h))
      clear r9 t9 e9
      have ep : IntKind.i64.wrap ((p : Int) + 64) = (p : Int) + 64 := by rw [IntWalk.i64_in _ (by omega)]
      go_wp2_with fail
      exact ⟨⟨q + 1, by have := HP.out; omega, by have := HP.out; exact congrArg (Value.int .i64) (by omega), R9.out, T9.out⟩, by simp [intOf]; omega⟩
    · have hpM : p = M := by have := HP.out; omega
      have hd : ¬ (p : Int) < (M : Int) := by omega
      have hqM : q = FM.length / 64 := by rw [← HM.out]; have := HP.out; omega
      have hsha : sha256 m = outB (blocks256 FM q).list := by rw [hqM, HF.out]; rfl
      have hoks : (blocks256 FM q).Ok := blocks256_ok _ _
      obtain ⟨sq, hsq⟩ : ∃ sq, sq = blocks256 FM q := ⟨_, rfl⟩
      rw [← hsq] at R3 hsha hoks
      have rG := IRow.new w3 27 .u8 (List.replicate 32 0)
      have bG : Below w3.heap.size w3 (w3.alloc (.cells ((List.replicate 32 (0 : Int)).map (Value.int .u8)).toArray 27)) := (Below.refl _ w3).alloc (Nat.le_refl _) _
      have RG := Lib.hid rG
      have BG := Lib.hid bG
      have HSHA := Lib.hid hsha
      have HOKS := Lib.hid hoks
      clear rG bG hqM hsha hoks hsq
      go_upto_block 12 with fail
      change Code.wp _ _ _ _ (w3.alloc (.cells ((List.replicate 32 (0 : Int)).map (Value.int .u8)).toArray 27))
      obtain ⟨w4, hw4⟩ : ∃ x, x = w3.alloc (.cells ((List.replicate 32 (0 : Int)).map (Value.int .u8)).toArray 27) := ⟨_, rfl⟩
      rw [← hw4] at RG BG ⊢
      obtain ⟨G, hG⟩ : ∃ G, G = w3.heap.size := ⟨_, rfl⟩
      rw [← hG] at RG BG ⊢
      have hHG : BH < G := by have := T3.out.size; have := G2.out; omega
      have hb23 : Below B0 w2 w3 := T3.out.below_of (by have := HK0.out; have := HH0.out; have := G2.out; omega) (by intro i hi h; have := HK0.out; have := HH0.out; omega)
      have hb4 := B2.out.trans (hb23.trans (BG.out.mono (by have := HK0.out; have := HH0.out; omega)))
      have rA4 := ((RA2.out.below (B := B0 + 1) (T3.out.below_of (by have := HK0.out; have := HH0.out; have := G2.out; omega) (by intro i hi h; have := HK0.out; have := HH0.out; omega)) (by omega)).below BG.out (by have := HK0.out; have := HH0.out; omega))
      have RA4 := Lib.hid rA4
      have B4 := Lib.hid hb4
      clear hw4 hG hb23 hb4 rA4
      try dsimp only [Act.put]
      refine rb12_any BH G sq w4 HOKS.out hHG (R3.out.below BG.out hHG) RG.out _ _ _ _ _ _ _ _ _ _ _ _ _ _ _ _ _ _ _ _ _ _ _ _ _ _ _ _ _ _ _ _ _ _ _ _ _ _ _ _ _ _ _ _ _ _ _ _ _ _ _ _ _ _ _ _ _ _ _ _ _ _ _ _ _ _ _ _ _ _ _ _ _ _ _ _ _ _ _ _ _ _ _ _ _ _ _ _ _ _ _ _ _ _ _ _ _ _ _ _ _ _ _ _ _ _ _ _ _ _ _ _ _ _ _ _ _ _ _ _ _ _ _ _ _ _ _ _ _ _ _ _ _ _ _ _ _ _ _ _ _ _ _ _ _ _ _ _ _ _ _ _ _ _ _ _ _ _ _ _ _ _ _ _ _ _ _ _ _ _ _ _ _ _ _ _ _ _ _ _ _ _ _ _ _ _ _ _ _ _ _ _ _ _ _ _ _ _ _ _ _ _ _ _ _ _ _ _ _ _ _ _ _ _ _ _ _ _ _ _ _ _ _ _ _ (fun _ _ _ _ _ h => h) (fun v12_19 v12_210 v12_211 v12_212 v12_213 v12_214 v12_215 v12_216 v12_217 v12_218 v12_219 v12_220 v12_221 v12_222 v12_223 v12_224 v12_225 v12_226 w5 r5 b5 => ?_)
      rw [← HSHA.out] at r5
      have hB0G : B0 < G := by have := HK0.out; have := HH0.out; omega
      have hsz : (nums (sha256 m)).length = 32 := by rw [nums_length, sha256_length]
      have HI := Lib.hid (show (Tryd.prog.info? 27).map (·.size) = some (nums (sha256 m)).length by rw [hsz]; exact info_h27)
      have HL := Lib.hid (show (List.replicate 32 (0 : Int)).length = (nums (sha256 m)).length by rw [hsz]; rfl)
      have rA5 := RA4.out.below b5 hB0G
      have hb5 := B4.out.trans (b5.mono (by omega : B0 ≤ G))
      have R5 := Lib.hid r5
      have RA5 := Lib.hid rA5
      have HFIN := Lib.hid (setRow_irow (ys := nums (sha256 m)) rA5)
      have HBF := Lib.hid (below_setRow hb5 (Nat.le_refl _) ((nums (sha256 m)).map (Value.int .u8)).toArray)
      clear r5 b5 rA5 hb5 hsz
      go_wp2_with (first
        | (refine wpList_load_irow rfl 27 (.tmp 18) rfl (g := G) (t := 27) (k := .u8) (xs := nums (sha256 m)) rfl R5.out Tryd.underlying27 HI.out ?_)
        | (refine wpList_store_irow rfl 27 (.tmp 2) (.tmp 227) rfl (g := B0) (t := 27) (k := .u8) (xs := List.replicate 32 0) (ys := nums (sha256 m)) rfl rfl RA5.out HI.out HL.out ?_))
      refine bodyPost_ret (v := digV (sha256 m)) ?_ rfl ⟨rfl, by rw [← HB0.out]; exact HBF.out⟩
      obtain ⟨fr, hrw⟩ : ∃ fr, ((w5.setRow B0 ((nums (sha256 m)).map (Value.int .u8)).toArray)).heap[B0]? = some (.cells ((nums (sha256 m)).map (Value.int .u8)).toArray 27 fr) := ⟨_, HFIN.out⟩
      exact results_cell_row Tryd.results9 _ _ B0 27 ((nums (sha256 m)).map (Value.int .u8)).toArray fr _ rfl hrw Tryd.underlying27 rfl (by rw [List.size_toArray, List.length_map]; exact HI.out)
end Go.Proofs.YtpcopimbnbmkmaaDoor
