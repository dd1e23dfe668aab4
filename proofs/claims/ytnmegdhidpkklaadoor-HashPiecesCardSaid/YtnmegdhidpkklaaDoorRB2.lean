/-
  The reference's Sum256: a block's sixteen words. Conditions: the block has 64 bytes.
-/
import Derived.Test.YtnmegdhidpkklaaDoorRSumP
namespace Go.Proofs.YtnmegdhidpkklaaDoor
open Go.RowKit

def findBlock (n : Nat) : Code → Option Code
  | .seq a b => match findBlock n a with
    | some c => some c
    | none => findBlock n b
  | .block k c => if k = n then some (.block k c) else findBlock n c
  | .loop c => findBlock n c
  | .scope c => findBlock n c
  | .cond _ a b => match findBlock n a with
    | some c => some c
    | none => findBlock n b
  | _ => none
noncomputable def blkOf (n : Nat) (f : Func) : Code := (f.body.bind (findBlock n)).getD .skip

set_option maxRecDepth 1000000 in
set_option maxHeartbeats 6400000 in
theorem rb2_any {Q : Exit → Act → World → Prop} (W gm p M cm : Nat) (bs : List UInt8) (w4 : World) (hbl : bs.length = 64) (hpM : p + 64 ≤ M) (hM : M ≤ 100200) (hWm : gm < W) (r0 : IRow w4 W 70 .u32 (List.replicate 64 0)) (hc : ∀ (j : Nat) (u : UInt8), bs[j]? = some u → w4.cell? ⟨gm, p + j, none⟩ = some (bv u)) (u0 u1 u2 u3 u4 u9 u10 u11 u12 u13 u14 u15 u16 u17 u18 u19 u20 u21 u22 u23 u24 u25 u26 u27 u28 u29 u30 u31 u32 u33 u34 u35 u36 u37 u38 u39 u40 u41 u42 u43 u44 u45 u46 u47 u48 u49 u50 u51 u52 u53 u54 u55 u56 u57 u58 u59 u60 u61 u62 u63 u64 u65 u66 u67 u68 u69 u70 u71 u72 u73 u74 u75 u76 u77 u78 u79 u80 u81 u82 u83 u84 u85 u86 u87 u88 u89 u90 u91 u92 u93 u94 u95 u96 u97 u98 u99 u100 u101 u102 u103 u104 u105 u106 u107 u108 u109 u110 u111 u112 u113 u114 u115 u116 u117 u118 u119 u120 u121 u122 u123 u124 u125 u126 u127 u128 u129 u130 u131 u132 u133 u134 u135 u136 u137 u138 u139 u140 u141 u142 u143 u144 u145 u146 u147 u148 u149 u150 u151 u152 u153 u154 u155 u156 u157 u158 u159 u160 u161 u162 u163 u164 u165 u166 u167 u168 u169 u170 u171 u172 u173 u174 u175 u176 u177 u178 u179 u180 u181 u182 u183 u184 u185 u186 u187 u188 u189 u190 u191 u192 u193 u194 u195 u196 u197 u198 u199 u200 u201 u202 u203 u204 u205 u206 u207 u208 u209 u210 u211 u212 u213 u214 u215 u216 u217 u218 u219 u220 u221 u222 u223 u224 u225 u226 u227 : Value)
    (hPan : ∀ (c : List PanicEntry) (a : Act) (d : Tmp) (v : Value) (w : World), Q (.panic c) (a.put (some d) v) w → Q (.panic c) a w)
    (hQ : ∀ (v8 v9 v30 v31 v32 v33 v34 v35 v36 v37 v38 v39 v40 v41 v42 v43 v44 v45 v46 v47 v48 v49 v50 v51 v52 v53 v54 : Value) (w' : World), IRow w' W 70 .u32 (padZ 64 (words16 bs)) → Below W w4 w' → Q .normal ⟨#[u0, u1, u2, u3, u4, .slice (some ⟨gm, 0, none⟩) M cm, .int .i64 (p : Int), .pointer (some ⟨W, 0, none⟩), v8, v9, u10, u11, u12, u13, u14, u15, u16, u17, u18, u19, u20, u21, u22, u23, u24, u25, u26, u27, u28, u29, v30, v31, v32, v33, v34, v35, v36, v37, v38, v39, v40, v41, v42, v43, v44, v45, v46, v47, v48, v49, v50, v51, v52, v53, v54, u55, u56, u57, u58, u59, u60, u61, u62, u63, u64, u65, u66, u67, u68, u69, u70, u71, u72, u73, u74, u75, u76, u77, u78, u79, u80, u81, u82, u83, u84, u85, u86, u87, u88, u89, u90, u91, u92, u93, u94, u95, u96, u97, u98, u99, u100, u101, u102, u103, u104, u105, u106, u107, u108, u109, u110, u111, u112, u113, u114, u115, u116, u117, u118, u119, u120, u121, u122, u123, u124, u125, u126, u127, u128, u129, u130, u131, u132, u133, u134, u135, u136, u137, u138, u139, u140, u141, u142, u143, u144, u145, u146, u147, u148, u149, u150, u151, u152, u153, u154, u155, u156, u157, u158, u159, u160, u161, u162, u163, u164, u165, u166, u167, u168, u169, u170, u171, u172, u173, u174, u175, u176, u177, u178, u179, u180, u181, u182, u183, u184, u185, u186, u187, u188, u189, u190, u191, u192, u193, u194, u195, u196, u197, u198, u199, u200, u201, u202, u203, u204, u205, u206, u207, u208, u209, u210, u211, u212, u213, u214, u215, u216, u217, u218, u219, u220, u221, u222, u223, u224, u225, u226, u227], []⟩ w') :
    Code.wp Tryd.prog (blkOf 2 Tryd.f12) Q ⟨#[u0, u1, u2, u3, u4, .slice (some ⟨gm, 0, none⟩) M cm, .int .i64 (p : Int), .pointer (some ⟨W, 0, none⟩), .int .i64 0, u9, u10, u11, u12, u13, u14, u15, u16, u17, u18, u19, u20, u21, u22, u23, u24, u25, u26, u27, u28, u29, u30, u31, u32, u33, u34, u35, u36, u37, u38, u39, u40, u41, u42, u43, u44, u45, u46, u47, u48, u49, u50, u51, u52, u53, u54, u55, u56, u57, u58, u59, u60, u61, u62, u63, u64, u65, u66, u67, u68, u69, u70, u71, u72, u73, u74, u75, u76, u77, u78, u79, u80, u81, u82, u83, u84, u85, u86, u87, u88, u89, u90, u91, u92, u93, u94, u95, u96, u97, u98, u99, u100, u101, u102, u103, u104, u105, u106, u107, u108, u109, u110, u111, u112, u113, u114, u115, u116, u117, u118, u119, u120, u121, u122, u123, u124, u125, u126, u127, u128, u129, u130, u131, u132, u133, u134, u135, u136, u137, u138, u139, u140, u141, u142, u143, u144, u145, u146, u147, u148, u149, u150, u151, u152, u153, u154, u155, u156, u157, u158, u159, u160, u161, u162, u163, u164, u165, u166, u167, u168, u169, u170, u171, u172, u173, u174, u175, u176, u177, u178, u179, u180, u181, u182, u183, u184, u185, u186, u187, u188, u189, u190, u191, u192, u193, u194, u195, u196, u197, u198, u199, u200, u201, u202, u203, u204, u205, u206, u207, u208, u209, u210, u211, u212, u213, u214, u215, u216, u217, u218, u219, u220, u221, u222, u223, u224, u225, u226, u227], []⟩ w4 := by
  conv => arg 2; whnf
  have HC := Lib.hid hc
  have HBL := Lib.hid hbl
  have HQ := Lib.hid hQ
  have R0 := Lib.hid r0
  clear hc hbl hQ r0
  go_wp2_with fail
  go_loopw [8] (fun v8 wt => ∃ t : Nat, t ≤ 16 ∧ v8 = .int .i64 (t : Int) ∧ IRow wt W 70 .u32 (padZ 64 (wordsN bs t)) ∧ Below W w4 wt) (fun v8 _ => 16 - (intOf v8).toNat)
  case atStart => exact ⟨0, by omega, rfl, R0.out, Below.refl _ _⟩
  case round =>
    obtain ⟨t, ht, rfl, rt, bt⟩ := hrel
    obtain ⟨w5, hw5⟩ : ∃ w5 : World, w5 = wr := ⟨_, rfl⟩
    rw [← hw5] at rt bt ⊢
    clear hw5
    by_cases h16 : t < 16
    · have hwl := wordsN_length bs t
      have h0 : (padZ 64 (wordsN bs t)).set t 0 = padZ 64 (wordsN bs t) := by
        refine set_same ?_
        have h := padZ_next (n := 64) (l := wordsN bs t) (by omega)
        rw [hwl] at h
        exact h
      have h4 : (padZ 64 (wordsN bs t)).set t (accW bs t 4) = padZ 64 (wordsN bs (t + 1)) := by
        have h := padZ_set (n := 64) (l := wordsN bs t) (z := wordAt bs t) (by omega)
        rw [hwl] at h
        rw [accW_four, wordsN_succ, ← h]
      have RT := Lib.hid (show IRow w5 W 70 .u32 ((padZ 64 (wordsN bs t)).set t (accW bs t 0)) by rw [show accW bs t 0 = 0 from rfl, h0]; exact rt)
      have BT := Lib.hid bt
      have H4 := Lib.hid h4
      obtain ⟨P, hP⟩ : ∃ P, P = padZ 64 (wordsN bs t) := ⟨_, rfl⟩
      rw [← hP] at RT H4
      have hPl : P.length = 64 := by rw [hP]; exact padZ_length (by omega)
      have HPL := Lib.hid hPl
      have hd16 : decide ((t : Int) < 16) = true := decide_eq_true (by omega)
      clear rt bt h0 h4 hwl hP hPl
      go_wp2_with fail
      go_loopw [9] (fun v9 wi => ∃ i : Nat, i ≤ 4 ∧ v9 = .int .i64 (i : Int) ∧ IRow wi W 70 .u32 (P.set t (accW bs t i)) ∧ Below W w4 wi) (fun v9 _ => 4 - (intOf v9).toNat)
      case atStart => exact ⟨0, by omega, rfl, RT.out, BT.out⟩
      case round =>
        obtain ⟨i, hi, rfl, ri, bi⟩ := hrel
        by_cases hi4 : i < 4
        · obtain ⟨u, hu⟩ : ∃ u, bs[4 * t + i]? = some u := ⟨_, List.getElem?_eq_getElem (by have := HBL.out; omega)⟩
          obtain ⟨k, hk⟩ : ∃ k, k = p + 4 * t + i := ⟨_, rfl⟩
          have hcu : wr.cell? ⟨gm, k, none⟩ = some (.int .u8 (u.toNat : Int)) := by
            have h := HC.out (4 * t + i) u hu
            rw [show p + (4 * t + i) = k by omega] at h
            exact (bi.cell (p := ⟨gm, k, none⟩) hWm).trans h
          obtain ⟨a, ha⟩ : ∃ a, a = accW bs t i := ⟨_, rfl⟩
          have hab := accW_bd bs t i (by omega)
          rw [← ha] at hab ri
          have hcw : wr.cell? ⟨W, t, none⟩ = some (.int .u32 a) := ri.cell (by rw [List.getElem?_set, if_pos rfl, if_pos (by have := HPL.out; omega)])
          have hfw := ri.free t
          have hset := ri.set t (a * 256 + (u.toNat : Int))
          have hu256 := u.toNat_lt
          have han : accW bs t (i + 1) = a * 256 + (u.toNat : Int) := by
            show accW bs t i * 256 + ((bs.getD (4 * t + i) 0).toNat : Int) = _
            rw [← ha, List.getD_eq_getElem?_getD, hu]
            rfl
          rw [List.set_set, ← han] at hset
          obtain ⟨z, hz⟩ : ∃ z, z = accW bs t (i + 1) := ⟨_, rfl⟩
          rw [← hz] at hset han
          have e1 : IntKind.i64.wrap (4 * (t : Int)) = 4 * (t : Int) := by rw [IntWalk.i64_in _ (by omega)]
          have e2 : IntKind.i64.wrap ((p : Int) + 4 * (t : Int)) = (p : Int) + 4 * (t : Int) := by rw [IntWalk.i64_in _ (by omega)]
          have e3 : IntKind.i64.wrap ((p : Int) + 4 * (t : Int) + (i : Int)) = (k : Int) := by rw [IntWalk.i64_in _ (by omega)]; omega
          have e4 : IntKind.u32.wrap (a * 256) = a * 256 := by rw [u32_wrap]; omega
          have e5 : IntKind.u32.wrap (a * 256 + (u.toNat : Int)) = z := by rw [u32_wrap, han]; omega
          have e6 : IntKind.u32.wrap (u.toNat : Int) = (u.toNat : Int) := by rw [u32_wrap]; omega
          have b1 : (t : Int) < 64 := by omega
          have b2 : (k : Int) < (M : Int) := by omega
          have HSET := Lib.hid hset
          have HZ := Lib.hid hz
          have BI := Lib.hid bi
          have hbi4 : (i : Int) < 4 := by omega
          clear hu hk ha hset han ri bi hz
          go_wp2_with fail
          refine wp_region_held_drew (S := (fun w' => w'.cell? ⟨gm, k, none⟩ = some (.int .u8 (u.toNat : Int)))) (by kernel_rfl) ?_ (fun hHeld => ?_)
          · exact hcu
          refine wpAnyH_take (i := 0) (oi := { dst := some 38, op := Go.Op.move (Go.Operand.tmp 8), type := 3, pos := "ref.go:42", after := #[], guard := none }) (v := ?av0) rfl (by kernel_rfl) (by kernel_rfl) (by kernel_rfl) (fun _ _ _ h => hPan _ _ _ _ _ h) (Or.inl ⟨by rfl, ?ay0⟩) (by assumption) ?ar0
          case ay0 => (intro w hSw; (try dsimp only at hSw); go_simp; try (with_reducible rfl))
          case ar0 =>
          try simp only [Act.put, List.setIfInBounds_toArray, List.set_cons_zero, List.set_cons_succ]
          refine wpAnyH_take (i := 1) (oi := { dst := some 39, op := Go.Op.move (Go.Operand.tmp 8), type := 3, pos := "ref.go:42", after := #[], guard := none }) (v := ?av1) rfl (by kernel_rfl) (by kernel_rfl) (by kernel_rfl) (fun _ _ _ h => hPan _ _ _ _ _ h) (Or.inl ⟨by rfl, ?ay1⟩) (by assumption) ?ar1
          case ay1 => (intro w hSw; (try dsimp only at hSw); go_simp; try (with_reducible rfl))
          case ar1 =>
          try simp only [Act.put, List.setIfInBounds_toArray, List.set_cons_zero, List.set_cons_succ]
          refine wpAnyH_take (i := 2) (oi := { dst := some 40, op := Go.Op.indexAddr 70 (Go.Operand.tmp 7) (Go.Operand.tmp 39), type := 0, pos := "ref.go:42", after := #[{ on := 1, ground := Go.Ground.data }], guard := none }) (v := ?av2) rfl (by kernel_rfl) (by kernel_rfl) (by kernel_rfl) (fun _ _ _ h => hPan _ _ _ _ _ h) (Or.inl ⟨by rfl, ?ay2⟩) (by assumption) ?ar2
          case ay2 => (intro w hSw; (try dsimp only at hSw); go_simp; try (with_reducible rfl))
          case ar2 =>
          try simp only [Act.put, List.setIfInBounds_toArray, List.set_cons_zero, List.set_cons_succ]
          refine wpAnyH_take (i := 5) (oi := { dst := some 43, op := Go.Op.move (Go.Operand.tmp 5), type := 22, pos := "ref.go:42", after := #[], guard := none }) (v := ?av5) rfl (by kernel_rfl) (by kernel_rfl) (by kernel_rfl) (fun _ _ _ h => hPan _ _ _ _ _ h) (Or.inl ⟨by rfl, ?ay5⟩) (by assumption) ?ar5
          case ay5 => (intro w hSw; (try dsimp only at hSw); go_simp; try (with_reducible rfl))
          case ar5 =>
          try simp only [Act.put, List.setIfInBounds_toArray, List.set_cons_zero, List.set_cons_succ]
          refine wpAnyH_take (i := 6) (oi := { dst := some 44, op := Go.Op.move (Go.Operand.tmp 6), type := 3, pos := "ref.go:42", after := #[], guard := none }) (v := ?av6) rfl (by kernel_rfl) (by kernel_rfl) (by kernel_rfl) (fun _ _ _ h => hPan _ _ _ _ _ h) (Or.inl ⟨by rfl, ?ay6⟩) (by assumption) ?ar6
          case ay6 => (intro w hSw; (try dsimp only at hSw); go_simp; try (with_reducible rfl))
          case ar6 =>
          try simp only [Act.put, List.setIfInBounds_toArray, List.set_cons_zero, List.set_cons_succ]
          refine wpAnyH_take (i := 7) (oi := { dst := some 45, op := Go.Op.move (Go.Operand.tmp 8), type := 3, pos := "ref.go:42", after := #[], guard := none }) (v := ?av7) rfl (by kernel_rfl) (by kernel_rfl) (by kernel_rfl) (fun _ _ _ h => hPan _ _ _ _ _ h) (Or.inl ⟨by rfl, ?ay7⟩) (by assumption) ?ar7
          case ay7 => (intro w hSw; (try dsimp only at hSw); go_simp; try (with_reducible rfl))
          case ar7 =>
          try simp only [Act.put, List.setIfInBounds_toArray, List.set_cons_zero, List.set_cons_succ]
          refine wpAnyH_take (i := 8) (oi := { dst := some 46, op := Go.Op.binOp Go.BinOp.mul 3 (Go.Operand.const (Go.Value.int Go.IntKind.i64 4)) (Go.Operand.tmp 45) 3, type := 3, pos := "ref.go:42", after := #[{ on := 7, ground := Go.Ground.data }], guard := none }) (v := ?av8) rfl (by kernel_rfl) (by kernel_rfl) (by kernel_rfl) (fun _ _ _ h => hPan _ _ _ _ _ h) (Or.inl ⟨by rfl, ?ay8⟩) (by assumption) ?ar8
          case ay8 => (intro w hSw; (try dsimp only at hSw); go_simp; try (with_reducible rfl))
          case ar8 =>
          try simp only [Act.put, List.setIfInBounds_toArray, List.set_cons_zero, List.set_cons_succ]
          refine wpAnyH_take (i := 9) (oi := { dst := some 47, op := Go.Op.binOp Go.BinOp.add 3 (Go.Operand.tmp 44) (Go.Operand.tmp 46) 3, type := 3, pos := "ref.go:42", after := #[{ on := 6, ground := Go.Ground.data }, { on := 8, ground := Go.Ground.data }], guard := none }) (v := ?av9) rfl (by kernel_rfl) (by kernel_rfl) (by kernel_rfl) (fun _ _ _ h => hPan _ _ _ _ _ h) (Or.inl ⟨by rfl, ?ay9⟩) (by assumption) ?ar9
          case ay9 => (intro w hSw; (try dsimp only at hSw); go_simp; try (with_reducible rfl))
          case ar9 =>
          try simp only [Act.put, List.setIfInBounds_toArray, List.set_cons_zero, List.set_cons_succ]
          refine wpAnyH_take (i := 10) (oi := { dst := some 48, op := Go.Op.move (Go.Operand.tmp 9), type := 3, pos := "ref.go:42", after := #[], guard := none }) (v := ?av10) rfl (by kernel_rfl) (by kernel_rfl) (by kernel_rfl) (fun _ _ _ h => hPan _ _ _ _ _ h) (Or.inl ⟨by rfl, ?ay10⟩) (by assumption) ?ar10
          case ay10 => (intro w hSw; (try dsimp only at hSw); go_simp; try (with_reducible rfl))
          case ar10 =>
          try simp only [Act.put, List.setIfInBounds_toArray, List.set_cons_zero, List.set_cons_succ]
          refine wpAnyH_take (i := 11) (oi := { dst := some 49, op := Go.Op.binOp Go.BinOp.add 3 (Go.Operand.tmp 47) (Go.Operand.tmp 48) 3, type := 3, pos := "ref.go:42", after := #[{ on := 9, ground := Go.Ground.data }, { on := 10, ground := Go.Ground.data }], guard := none }) (v := ?av11) rfl (by kernel_rfl) (by kernel_rfl) (by kernel_rfl) (fun _ _ _ h => hPan _ _ _ _ _ h) (Or.inl ⟨by rfl, ?ay11⟩) (by assumption) ?ar11
          case ay11 => (intro w hSw; (try dsimp only at hSw); go_simp; try (with_reducible rfl))
          case ar11 =>
          try simp only [Act.put, List.setIfInBounds_toArray, List.set_cons_zero, List.set_cons_succ]
          refine wpAnyH_take (i := 12) (oi := { dst := some 50, op := Go.Op.indexAddr 22 (Go.Operand.tmp 43) (Go.Operand.tmp 49), type := 0, pos := "ref.go:42", after := #[{ on := 5, ground := Go.Ground.data }, { on := 11, ground := Go.Ground.data }], guard := none }) (v := ?av12) rfl (by kernel_rfl) (by kernel_rfl) (by kernel_rfl) (fun _ _ _ h => hPan _ _ _ _ _ h) (Or.inl ⟨by rfl, ?ay12⟩) (by assumption) ?ar12
          case ay12 => (intro w hSw; (try dsimp only at hSw); go_simp; try (with_reducible rfl))
          case ar12 =>
          try simp only [Act.put, List.setIfInBounds_toArray, List.set_cons_zero, List.set_cons_succ]
          refine wpAnyH_take (i := 13) (oi := { dst := some 51, op := Go.Op.load 5 (Go.Operand.tmp 50), type := 5, pos := "ref.go:42", after := #[{ on := 12, ground := Go.Ground.data }], guard := none }) (v := ?av13) rfl (by kernel_rfl) (by kernel_rfl) (by kernel_rfl) (fun _ _ _ h => hPan _ _ _ _ _ h) (Or.inl ⟨by rfl, ?ay13⟩) (by assumption) ?ar13
          case ay13 => (intro w hSw; (try dsimp only at hSw); go_simp; try (with_reducible rfl))
          case ar13 =>
          try simp only [Act.put, List.setIfInBounds_toArray, List.set_cons_zero, List.set_cons_succ]
          refine wpAnyH_take (i := 14) (oi := { dst := some 52, op := Go.Op.convert 5 39 (Go.Operand.tmp 51), type := 39, pos := "ref.go:42", after := #[{ on := 13, ground := Go.Ground.data }], guard := none }) (v := ?av14) rfl (by kernel_rfl) (by kernel_rfl) (by kernel_rfl) (fun _ _ _ h => hPan _ _ _ _ _ h) (Or.inl ⟨by rfl, ?ay14⟩) (by assumption) ?ar14
          case ay14 => (intro w hSw; (try dsimp only at hSw); go_simp; try (with_reducible rfl))
          case ar14 =>
          try simp only [Act.put, List.setIfInBounds_toArray, List.set_cons_zero, List.set_cons_succ]
          refine wpAnyH_ready (rs := [3]) (by kernel_rfl) (by simp) ?_
          refine AllReadyH.cons (o := { dst := some 41, op := Go.Op.load 39 (Go.Operand.tmp 40), type := 39, pos := "ref.go:42", after := #[{ on := 2, ground := Go.Ground.data }], guard := none }) rfl (fun K hK => ?_) (AllReadyH.nil)
          go_simp
          refine hK.out _ _ ?_ (fun hHeld => ?_)
          · exact hHeld
          clear hK K
          try simp only [Act.put, List.setIfInBounds_toArray, List.set_cons_zero, List.set_cons_succ]
          refine wpAnyH_take (i := 4) (oi := { dst := some 42, op := Go.Op.binOp Go.BinOp.mul 39 (Go.Operand.tmp 41) (Go.Operand.const (Go.Value.int Go.IntKind.u32 256)) 39, type := 39, pos := "ref.go:42", after := #[{ on := 3, ground := Go.Ground.data }], guard := none }) (v := ?a_3v4) rfl (by kernel_rfl) (by kernel_rfl) (by kernel_rfl) (fun _ _ _ h => hPan _ _ _ _ _ h) (Or.inl ⟨by rfl, ?a_3y4⟩) (by assumption) ?a_3r4
          case a_3y4 => (intro w hSw; (try dsimp only at hSw); go_simp; try (with_reducible rfl))
          case a_3r4 =>
          try simp only [Act.put, List.setIfInBounds_toArray, List.set_cons_zero, List.set_cons_succ]
          refine wpAnyH_take (i := 15) (oi := { dst := some 53, op := Go.Op.binOp Go.BinOp.add 39 (Go.Operand.tmp 42) (Go.Operand.tmp 52) 39, type := 39, pos := "ref.go:42", after := #[{ on := 4, ground := Go.Ground.data }, { on := 14, ground := Go.Ground.data }], guard := none }) (v := ?a_3v15) rfl (by kernel_rfl) (by kernel_rfl) (by kernel_rfl) (fun _ _ _ h => hPan _ _ _ _ _ h) (Or.inl ⟨by rfl, ?a_3y15⟩) (by assumption) ?a_3r15
          case a_3y15 => (intro w hSw; (try dsimp only at hSw); go_simp; try (with_reducible rfl))
          case a_3r15 =>
          try simp only [Act.put, List.setIfInBounds_toArray, List.set_cons_zero, List.set_cons_succ]
          refine wpAnyH_take (i := 16) (oi := { dst := some 54, op := Go.Op.indexAddr 70 (Go.Operand.tmp 7) (Go.Operand.tmp 38), type := 0, pos := "ref.go:42", after := #[{ on := 0, ground := Go.Ground.data }, { on := 0, ground := Go.Ground.phase }, { on := 1, ground := Go.Ground.phase }, { on := 2, ground := Go.Ground.phase }, { on := 3, ground := Go.Ground.phase }, { on := 4, ground := Go.Ground.phase }, { on := 5, ground := Go.Ground.phase }, { on := 6, ground := Go.Ground.phase }, { on := 7, ground := Go.Ground.phase }, { on := 8, ground := Go.Ground.phase }, { on := 9, ground := Go.Ground.phase }, { on := 10, ground := Go.Ground.phase }, { on := 11, ground := Go.Ground.phase }, { on := 12, ground := Go.Ground.phase }, { on := 13, ground := Go.Ground.phase }, { on := 14, ground := Go.Ground.phase }, { on := 15, ground := Go.Ground.phase }], guard := none }) (v := ?a_3v16) rfl (by kernel_rfl) (by kernel_rfl) (by kernel_rfl) (fun _ _ _ h => hPan _ _ _ _ _ h) (Or.inl ⟨by rfl, ?a_3y16⟩) (by assumption) ?a_3r16
          case a_3y16 => (intro w hSw; (try dsimp only at hSw); go_simp; try (with_reducible rfl))
          case a_3r16 =>
          try simp only [Act.put, List.setIfInBounds_toArray, List.set_cons_zero, List.set_cons_succ]
          refine wpAnyH_ready (rs := [17]) (by kernel_rfl) (by simp) ?_
          refine AllReadyH.cons (o := { dst := none, op := Go.Op.store 39 (Go.Operand.tmp 54) (Go.Operand.tmp 53), type := 0, pos := "ref.go:42", after := #[{ on := 16, ground := Go.Ground.data }, { on := 15, ground := Go.Ground.data }, { on := 0, ground := Go.Ground.phase }, { on := 1, ground := Go.Ground.phase }, { on := 2, ground := Go.Ground.phase }, { on := 3, ground := Go.Ground.phase }, { on := 4, ground := Go.Ground.phase }, { on := 5, ground := Go.Ground.phase }, { on := 6, ground := Go.Ground.phase }, { on := 7, ground := Go.Ground.phase }, { on := 8, ground := Go.Ground.phase }, { on := 9, ground := Go.Ground.phase }, { on := 10, ground := Go.Ground.phase }, { on := 11, ground := Go.Ground.phase }, { on := 12, ground := Go.Ground.phase }, { on := 13, ground := Go.Ground.phase }, { on := 14, ground := Go.Ground.phase }, { on := 15, ground := Go.Ground.phase }], guard := none }) rfl (fun K hK => ?_) (AllReadyH.nil)
          go_simp
          refine hK.out _ _ ?_ (fun hHeld => ?_)
          · exact (World.cell?_setCell_far wr.drew _ _ _ (by show W ≠ gm; omega)).trans hcu
          clear hK K
          try simp only [Act.put, List.setIfInBounds_toArray, List.set_cons_zero, List.set_cons_succ]
          refine wpAnyH_done (by kernel_rfl) ?_ _
          go_wp2_with fail
          have HS2 := HSET.out
          have HB2 := (BI.out.setCell (p := ⟨W, t, none⟩) (Nat.le_refl _) (.int .u32 z)).drew
          exact ⟨⟨i + 1, by omega, by go_num, by rw [← HZ.out]; exact HS2, HB2⟩, by simp [intOf]; omega⟩
        · obtain rfl : i = 4 := by omega
          rw [H4.out] at ri
          have RI := Lib.hid ri
          have BI := Lib.hid bi
          have e44 : ((4 : Nat) : Int) = 4 := rfl
          rw [e44]
          clear ri bi e44 hi4
          go_wp2_with fail
          exact ⟨⟨t + 1, by omega, by go_num, RI.out, BI.out⟩, by simp [intOf]; omega⟩
    · obtain rfl : t = 16 := by omega
      have e16 : ((16 : Nat) : Int) = 16 := rfl
      rw [e16]
      have RT := Lib.hid rt
      have BT := Lib.hid bt
      clear rt bt e16 h16
      go_wp2_with fail
      exact HQ.out _ _ _ _ _ _ _ _ _ _ _ _ _ _ _ _ _ _ _ _ _ _ _ _ _ _ _ _ RT.out BT.out
end Go.Proofs.YtnmegdhidpkklaaDoor
