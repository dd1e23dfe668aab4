/-
  Texts joined: RB2, S5RB2, S5RB6. Conditions: those of each.
-/
import Derived.Test.YtfkpdbmgiefnfaaDoorP23
/-
  The reference's Sum256: a block's sixteen words. Conditions: the block has 64 bytes.
-/
namespace Go.Proofs.YtfkpdbmgiefnfaaDoor
open Go.RowKit

def findBlock (n : Nat) : Code → Option Code
  | .seq a b => match findBlock n a with
    | some c => some c
    | none => findBlock n b
  | .block k c => if k = n then some (.block k c) else findBlock n c
  | .loop c => findBlock n c
  | .scope c => findBlock n c
  | .cond _ a b => match findBlock n a with
    | some c => some c
    | none => findBlock n b
  | _ => none
noncomputable def blkOf (n : Nat) (f : Func) : Code := (f.body.bind (findBlock n)).getD .skip

end Go.Proofs.YtfkpdbmgiefnfaaDoor

/-
  The reference's Sum512: a block's sixteen words. Conditions: the block has 64 bytes.
-/
namespace Go.Proofs.YtfkpdbmgiefnfaaDoor.S5
open Go.RowKit

set_option maxRecDepth 1000000 in
set_option maxHeartbeats 6400000 in
theorem rb2_any {Q : Exit → Act → World → Prop} (W gm p M cm : Nat) (bs : List UInt8) (w4 : World) (hbl : bs.length = 128) (hpM : p + 128 ≤ M) (hM : M ≤ 100200) (hWm : gm < W) (r0 : IRow w4 W 103 .u64 (List.replicate 80 0)) (hc : ∀ (j : Nat) (u : UInt8), bs[j]? = some u → w4.cell? ⟨gm, p + j, none⟩ = some (bv u)) (u0 u1 u2 u3 u4 u9 u10 u11 u12 u13 u14 u15 u16 u17 u18 u19 u20 u21 u22 u23 u24 u25 u26 u27 u28 u29 u30 u31 u32 u33 u34 u35 u36 u37 u38 u39 u40 u41 u42 u43 u44 u45 u46 u47 u48 u49 u50 u51 u52 u53 u54 u55 u56 u57 u58 u59 u60 u61 u62 u63 u64 u65 u66 u67 u68 u69 u70 u71 u72 u73 u74 u75 u76 u77 u78 u79 u80 u81 u82 u83 u84 u85 u86 u87 u88 u89 u90 u91 u92 u93 u94 u95 u96 u97 u98 u99 u100 u101 u102 u103 u104 u105 u106 u107 u108 u109 u110 u111 u112 u113 u114 u115 u116 u117 u118 u119 u120 u121 u122 u123 u124 u125 u126 u127 u128 u129 u130 u131 u132 u133 u134 u135 u136 u137 u138 u139 u140 u141 u142 u143 u144 u145 u146 u147 u148 u149 u150 u151 u152 u153 u154 u155 u156 u157 u158 u159 u160 u161 u162 u163 u164 u165 u166 u167 u168 u169 u170 u171 u172 u173 u174 u175 u176 u177 u178 u179 u180 u181 u182 u183 u184 u185 u186 u187 u188 u189 u190 u191 u192 u193 u194 u195 u196 u197 u198 u199 u200 u201 u202 u203 u204 u205 u206 u207 u208 u209 u210 u211 u212 u213 u214 u215 u216 u217 u218 u219 u220 u221 u222 u223 u224 u225 u226 u227 : Value)
    (hPan : ∀ (c : List PanicEntry) (a : Act) (d : Tmp) (v : Value) (w : World), Q (.panic c) (a.put (some d) v) w → Q (.panic c) a w)
    (hQ : ∀ (v8 v9 v30 v31 v32 v33 v34 v35 v36 v37 v38 v39 v40 v41 v42 v43 v44 v45 v46 v47 v48 v49 v50 v51 v52 v53 v54 : Value) (w' : World), IRow w' W 103 .u64 (padZ 80 (words16 bs)) → Below W w4 w' → Q .normal ⟨#[u0, u1, u2, u3, u4, .slice (some ⟨gm, 0, none⟩) M cm, .int .i64 (p : Int), .pointer (some ⟨W, 0, none⟩), v8, v9, u10, u11, u12, u13, u14, u15, u16, u17, u18, u19, u20, u21, u22, u23, u24, u25, u26, u27, u28, u29, v30, v31, v32, v33, v34, v35, v36, v37, v38, v39, v40, v41, v42, v43, v44, v45, v46, v47, v48, v49, v50, v51, v52, v53, v54, u55, u56, u57, u58, u59, u60, u61, u62, u63, u64, u65, u66, u67, u68, u69, u70, u71, u72, u73, u74, u75, u76, u77, u78, u79, u80, u81, u82, u83, u84, u85, u86, u87, u88, u89, u90, u91, u92, u93, u94, u95, u96, u97, u98, u99, u100, u101, u102, u103, u104, u105, u106, u107, u108, u109, u110, u111, u112, u113, u114, u115, u116, u117, u118, u119, u120, u121, u122, u123, u124, u125, u126, u127, u128, u129, u130, u131, u132, u133, u134, u135, u136, u137, u138, u139, u140, u141, u142, u143, u144, u145, u146, u147, u148, u149, u150, u151, u152, u153, u154, u155, u156, u157, u158, u159, u160, u161, u162, u163, u164, u165, u166, u167, u168, u169, u170, u171, u172, u173, u174, u175, u176, u177, u178, u179, u180, u181, u182, u183, u184, u185, u186, u187, u188, u189, u190, u191, u192, u193, u194, u195, u196, u197, u198, u199, u200, u201, u202, u203, u204, u205, u206, u207, u208, u209, u210, u211, u212, u213, u214, u215, u216, u217, u218, u219, u220, u221, u222, u223, u224, u225, u226, u227], []⟩ w') :
    Code.wp Tryd.prog (blkOf 2 Tryd.f31) Q ⟨#[u0, u1, u2, u3, u4, .slice (some ⟨gm, 0, none⟩) M cm, .int .i64 (p : Int), .pointer (some ⟨W, 0, none⟩), .int .i64 0, u9, u10, u11, u12, u13, u14, u15, u16, u17, u18, u19, u20, u21, u22, u23, u24, u25, u26, u27, u28, u29, u30, u31, u32, u33, u34, u35, u36, u37, u38, u39, u40, u41, u42, u43, u44, u45, u46, u47, u48, u49, u50, u51, u52, u53, u54, u55, u56, u57, u58, u59, u60, u61, u62, u63, u64, u65, u66, u67, u68, u69, u70, u71, u72, u73, u74, u75, u76, u77, u78, u79, u80, u81, u82, u83, u84, u85, u86, u87, u88, u89, u90, u91, u92, u93, u94, u95, u96, u97, u98, u99, u100, u101, u102, u103, u104, u105, u106, u107, u108, u109, u110, u111, u112, u113, u114, u115, u116, u117, u118, u119, u120, u121, u122, u123, u124, u125, u126, u127, u128, u129, u130, u131, u132, u133, u134, u135, u136, u137, u138, u139, u140, u141, u142, u143, u144, u145, u146, u147, u148, u149, u150, u151, u152, u153, u154, u155, u156, u157, u158, u159, u160, u161, u162, u163, u164, u165, u166, u167, u168, u169, u170, u171, u172, u173, u174, u175, u176, u177, u178, u179, u180, u181, u182, u183, u184, u185, u186, u187, u188, u189, u190, u191, u192, u193, u194, u195, u196, u197, u198, u199, u200, u201, u202, u203, u204, u205, u206, u207, u208, u209, u210, u211, u212, u213, u214, u215, u216, u217, u218, u219, u220, u221, u222, u223, u224, u225, u226, u227], []⟩ w4 := by
  conv => arg 2; whnf
  have HC := Lib.hid hc
  have HBL := Lib.hid hbl
  have HQ := Lib.hid hQ
  have R0 := Lib.hid r0
  clear hc hbl hQ r0
  go_wp2_with fail
  go_loopw [8] (fun v8 wt => ∃ t : Nat, t ≤ 16 ∧ v8 = .int .i64 (t : Int) ∧ IRow wt W 103 .u64 (padZ 80 (wordsN bs t)) ∧ Below W w4 wt) (fun v8 _ => 16 - (intOf v8).toNat)
  case atStart => exact ⟨0, by omega, rfl, R0.out, Below.refl _ _⟩
  case round =>
    obtain ⟨t, ht, rfl, rt, bt⟩ := hrel
    obtain ⟨w5, hw5⟩ : ∃ w5 : World, w5 = wr := ⟨_, rfl⟩
    rw [← hw5] at rt bt ⊢
    clear hw5
    by_cases h16 : t < 16
    · have hwl := wordsN_length bs t
      have h0 : (padZ 80 (wordsN bs t)).set t 0 = padZ 80 (wordsN bs t) := by
        refine set_same ?_
        have h := padZ_next (n := 80) (l := wordsN bs t) (by omega)
        rw [hwl] at h
        exact h
      have h4 : (padZ 80 (wordsN bs t)).set t (accW bs t 8) = padZ 80 (wordsN bs (t + 1)) := by
        have h := padZ_set (n := 80) (l := wordsN bs t) (z := wordAt bs t) (by omega)
        rw [hwl] at h
        rw [accW_eight, wordsN_succ, ← h]
      have RT := Lib.hid (show IRow w5 W 103 .u64 ((padZ 80 (wordsN bs t)).set t (accW bs t 0)) by rw [show accW bs t 0 = 0 from rfl, h0]; exact rt)
      have BT := Lib.hid bt
      have H4 := Lib.hid h4
      obtain ⟨P, hP⟩ : ∃ P, P = padZ 80 (wordsN bs t) := ⟨_, rfl⟩
      rw [← hP] at RT H4
      have hPl : P.length = 80 := by rw [hP]; exact padZ_length (by omega)
      have HPL := Lib.hid hPl
      have hd16 : decide ((t : Int) < 16) = true := decide_eq_true (by omega)
      clear rt bt h0 h4 hwl hP hPl
      go_wp2_with fail
      go_loopw [9] (fun v9 wi => ∃ i : Nat, i ≤ 8 ∧ v9 = .int .i64 (i : Int) ∧ IRow wi W 103 .u64 (P.set t (accW bs t i)) ∧ Below W w4 wi) (fun v9 _ => 8 - (intOf v9).toNat)
      case atStart => exact ⟨0, by omega, rfl, RT.out, BT.out⟩
      case round =>
        obtain ⟨i, hi, rfl, ri, bi⟩ := hrel
        by_cases hi4 : i < 8
        · obtain ⟨u, hu⟩ : ∃ u, bs[8 * t + i]? = some u := ⟨_, List.getElem?_eq_getElem (by have := HBL.out; omega)⟩
          obtain ⟨k, hk⟩ : ∃ k, k = p + 8 * t + i := ⟨_, rfl⟩
          have hcu : wr.cell? ⟨gm, k, none⟩ = some (.int .u8 (u.toNat : Int)) := by
            have h := HC.out (8 * t + i) u hu
            rw [show p + (8 * t + i) = k by omega] at h
            exact (bi.cell (p := ⟨gm, k, none⟩) hWm).trans h
          obtain ⟨a, ha⟩ : ∃ a, a = accW bs t i := ⟨_, rfl⟩
          have hab := accW_bd bs t i (by omega)
          rw [← ha] at hab ri
          have hcw : wr.cell? ⟨W, t, none⟩ = some (.int .u64 a) := ri.cell (by rw [List.getElem?_set, if_pos rfl, if_pos (by have := HPL.out; omega)])
          have hfw := ri.free t
          have hset := ri.set t (a * 256 + (u.toNat : Int))
          have hu256 := u.toNat_lt
          have han : accW bs t (i + 1) = a * 256 + (u.toNat : Int) := by
            show accW bs t i * 256 + ((bs.getD (8 * t + i) 0).toNat : Int) = _
            rw [← ha, List.getD_eq_getElem?_getD, hu]
            rfl
          rw [List.set_set, ← han] at hset
          obtain ⟨z, hz⟩ : ∃ z, z = accW bs t (i + 1) := ⟨_, rfl⟩
          rw [← hz] at hset han
          have e1 : IntKind.i64.wrap (8 * (t : Int)) = 8 * (t : Int) := by rw [IntWalk.i64_in _ (by omega)]
          have e2 : IntKind.i64.wrap ((p : Int) + 8 * (t : Int)) = (p : Int) + 8 * (t : Int) := by rw [IntWalk.i64_in _ (by omega)]
          have e3 : IntKind.i64.wrap ((p : Int) + 8 * (t : Int) + (i : Int)) = (k : Int) := by rw [IntWalk.i64_in _ (by omega)]; omega
          have e4 : IntKind.u64.wrap (a * 256) = a * 256 := by rw [u64_wrap]; omega
          have e5 : IntKind.u64.wrap (a * 256 + (u.toNat : Int)) = z := by rw [u64_wrap, han]; omega
          have e6 : IntKind.u64.wrap (u.toNat : Int) = (u.toNat : Int) := by rw [u64_wrap]; omega
          have b1 : (t : Int) < 80 := by omega
          have b2 : (k : Int) < (M : Int) := by omega
          have HSET := Lib.hid hset
          have HZ := Lib.hid hz
          have BI := Lib.hid bi
          have hbi4 : (i : Int) < 8 := by omega
          clear hu hk ha hset han ri bi hz
          go_wp2_with fail
          refine wp_region_held_drew (S := (fun w' => w'.cell? ⟨gm, k, none⟩ = some (.int .u8 (u.toNat : Int)))) (by kernel_rfl) ?_ (fun hHeld => ?_)
          · exact hcu
          refine wpAnyH_take (i := 0) (oi := { dst := some 38, op := Go.Op.move (Go.Operand.tmp 8), type := 3, pos := "ref.go:76", after := #[], guard := none }) (v := ?av0) rfl (by kernel_rfl) (by kernel_rfl) (by kernel_rfl) (fun _ _ _ h => hPan _ _ _ _ _ h) (Or.inl ⟨by rfl, ?ay0⟩) (by assumption) ?ar0
          case ay0 => (intro w hSw; (try dsimp only at hSw); go_simp; try (with_reducible rfl))
          case ar0 =>
          try simp only [Act.put, List.setIfInBounds_toArray, List.set_cons_zero, List.set_cons_succ]
          refine wpAnyH_take (i := 1) (oi := { dst := some 39, op := Go.Op.move (Go.Operand.tmp 8), type := 3, pos := "ref.go:76", after := #[], guard := none }) (v := ?av1) rfl (by kernel_rfl) (by kernel_rfl) (by kernel_rfl) (fun _ _ _ h => hPan _ _ _ _ _ h) (Or.inl ⟨by rfl, ?ay1⟩) (by assumption) ?ar1
          case ay1 => (intro w hSw; (try dsimp only at hSw); go_simp; try (with_reducible rfl))
          case ar1 =>
          try simp only [Act.put, List.setIfInBounds_toArray, List.set_cons_zero, List.set_cons_succ]
          refine wpAnyH_take (i := 2) (oi := { dst := some 40, op := Go.Op.indexAddr 103 (Go.Operand.tmp 7) (Go.Operand.tmp 39), type := 0, pos := "ref.go:76", after := #[{ on := 1, ground := Go.Ground.data }], guard := none }) (v := ?av2) rfl (by kernel_rfl) (by kernel_rfl) (by kernel_rfl) (fun _ _ _ h => hPan _ _ _ _ _ h) (Or.inl ⟨by rfl, ?ay2⟩) (by assumption) ?ar2
          case ay2 => (intro w hSw; (try dsimp only at hSw); go_simp; try (with_reducible rfl))
          case ar2 =>
          try simp only [Act.put, List.setIfInBounds_toArray, List.set_cons_zero, List.set_cons_succ]
          refine wpAnyH_take (i := 5) (oi := { dst := some 43, op := Go.Op.move (Go.Operand.tmp 5), type := 22, pos := "ref.go:76", after := #[], guard := none }) (v := ?av5) rfl (by kernel_rfl) (by kernel_rfl) (by kernel_rfl) (fun _ _ _ h => hPan _ _ _ _ _ h) (Or.inl ⟨by rfl, ?ay5⟩) (by assumption) ?ar5
          case ay5 => (intro w hSw; (try dsimp only at hSw); go_simp; try (with_reducible rfl))
          case ar5 =>
          try simp only [Act.put, List.setIfInBounds_toArray, List.set_cons_zero, List.set_cons_succ]
          refine wpAnyH_take (i := 6) (oi := { dst := some 44, op := Go.Op.move (Go.Operand.tmp 6), type := 3, pos := "ref.go:76", after := #[], guard := none }) (v := ?av6) rfl (by kernel_rfl) (by kernel_rfl) (by kernel_rfl) (fun _ _ _ h => hPan _ _ _ _ _ h) (Or.inl ⟨by rfl, ?ay6⟩) (by assumption) ?ar6
          case ay6 => (intro w hSw; (try dsimp only at hSw); go_simp; try (with_reducible rfl))
          case ar6 =>
          try simp only [Act.put, List.setIfInBounds_toArray, List.set_cons_zero, List.set_cons_succ]
          refine wpAnyH_take (i := 7) (oi := { dst := some 45, op := Go.Op.move (Go.Operand.tmp 8), type := 3, pos := "ref.go:76", after := #[], guard := none }) (v := ?av7) rfl (by kernel_rfl) (by kernel_rfl) (by kernel_rfl) (fun _ _ _ h => hPan _ _ _ _ _ h) (Or.inl ⟨by rfl, ?ay7⟩) (by assumption) ?ar7
          case ay7 => (intro w hSw; (try dsimp only at hSw); go_simp; try (with_reducible rfl))
          case ar7 =>
          try simp only [Act.put, List.setIfInBounds_toArray, List.set_cons_zero, List.set_cons_succ]
          refine wpAnyH_take (i := 8) (oi := { dst := some 46, op := Go.Op.binOp Go.BinOp.mul 3 (Go.Operand.const (Go.Value.int Go.IntKind.i64 8)) (Go.Operand.tmp 45) 3, type := 3, pos := "ref.go:76", after := #[{ on := 7, ground := Go.Ground.data }], guard := none }) (v := ?av8) rfl (by kernel_rfl) (by kernel_rfl) (by kernel_rfl) (fun _ _ _ h => hPan _ _ _ _ _ h) (Or.inl ⟨by rfl, ?ay8⟩) (by assumption) ?ar8
          case ay8 => (intro w hSw; (try dsimp only at hSw); go_simp; try (with_reducible rfl))
          case ar8 =>
          try simp only [Act.put, List.setIfInBounds_toArray, List.set_cons_zero, List.set_cons_succ]
          refine wpAnyH_take (i := 9) (oi := { dst := some 47, op := Go.Op.binOp Go.BinOp.add 3 (Go.Operand.tmp 44) (Go.Operand.tmp 46) 3, type := 3, pos := "ref.go:76", after := #[{ on := 6, ground := Go.Ground.data }, { on := 8, ground := Go.Ground.data }], guard := none }) (v := ?av9) rfl (by kernel_rfl) (by kernel_rfl) (by kernel_rfl) (fun _ _ _ h => hPan _ _ _ _ _ h) (Or.inl ⟨by rfl, ?ay9⟩) (by assumption) ?ar9
          case ay9 => (intro w hSw; (try dsimp only at hSw); go_simp; try (with_reducible rfl))
          case ar9 =>
          try simp only [Act.put, List.setIfInBounds_toArray, List.set_cons_zero, List.set_cons_succ]
          refine wpAnyH_take (i := 10) (oi := { dst := some 48, op := Go.Op.move (Go.Operand.tmp 9), type := 3, pos := "ref.go:76", after := #[], guard := none }) (v := ?av10) rfl (by kernel_rfl) (by kernel_rfl) (by kernel_rfl) (fun _ _ _ h => hPan _ _ _ _ _ h) (Or.inl ⟨by rfl, ?ay10⟩) (by assumption) ?ar10
          case ay10 => (intro w hSw; (try dsimp only at hSw); go_simp; try (with_reducible rfl))
          case ar10 =>
          try simp only [Act.put, List.setIfInBounds_toArray, List.set_cons_zero, List.set_cons_succ]
          refine wpAnyH_take (i := 11) (oi := { dst := some 49, op := Go.Op.binOp Go.BinOp.add 3 (Go.Operand.tmp 47) (Go.Operand.tmp 48) 3, type := 3, pos := "ref.go:76", after := #[{ on := 9, ground := Go.Ground.data }, { on := 10, ground := Go.Ground.data }], guard := none }) (v := ?av11) rfl (by kernel_rfl) (by kernel_rfl) (by kernel_rfl) (fun _ _ _ h => hPan _ _ _ _ _ h) (Or.inl ⟨by rfl, ?ay11⟩) (by assumption) ?ar11
          case ay11 => (intro w hSw; (try dsimp only at hSw); go_simp; try (with_reducible rfl))
          case ar11 =>
          try simp only [Act.put, List.setIfInBounds_toArray, List.set_cons_zero, List.set_cons_succ]
          refine wpAnyH_take (i := 12) (oi := { dst := some 50, op := Go.Op.indexAddr 22 (Go.Operand.tmp 43) (Go.Operand.tmp 49), type := 0, pos := "ref.go:76", after := #[{ on := 5, ground := Go.Ground.data }, { on := 11, ground := Go.Ground.data }], guard := none }) (v := ?av12) rfl (by kernel_rfl) (by kernel_rfl) (by kernel_rfl) (fun _ _ _ h => hPan _ _ _ _ _ h) (Or.inl ⟨by rfl, ?ay12⟩) (by assumption) ?ar12
          case ay12 => (intro w hSw; (try dsimp only at hSw); go_simp; try (with_reducible rfl))
          case ar12 =>
          try simp only [Act.put, List.setIfInBounds_toArray, List.set_cons_zero, List.set_cons_succ]
          refine wpAnyH_take (i := 13) (oi := { dst := some 51, op := Go.Op.load 5 (Go.Operand.tmp 50), type := 5, pos := "ref.go:76", after := #[{ on := 12, ground := Go.Ground.data }], guard := none }) (v := ?av13) rfl (by kernel_rfl) (by kernel_rfl) (by kernel_rfl) (fun _ _ _ h => hPan _ _ _ _ _ h) (Or.inl ⟨by rfl, ?ay13⟩) (by assumption) ?ar13
          case ay13 => (intro w hSw; (try dsimp only at hSw); go_simp; try (with_reducible rfl))
          case ar13 =>
          try simp only [Act.put, List.setIfInBounds_toArray, List.set_cons_zero, List.set_cons_succ]
          refine wpAnyH_take (i := 14) (oi := { dst := some 52, op := Go.Op.convert 5 57 (Go.Operand.tmp 51), type := 57, pos := "ref.go:76", after := #[{ on := 13, ground := Go.Ground.data }], guard := none }) (v := ?av14) rfl (by kernel_rfl) (by kernel_rfl) (by kernel_rfl) (fun _ _ _ h => hPan _ _ _ _ _ h) (Or.inl ⟨by rfl, ?ay14⟩) (by assumption) ?ar14
          case ay14 => (intro w hSw; (try dsimp only at hSw); go_simp; try (with_reducible rfl))
          case ar14 =>
          try simp only [Act.put, List.setIfInBounds_toArray, List.set_cons_zero, List.set_cons_succ]
          refine wpAnyH_ready (rs := [3]) (by kernel_rfl) (by simp) ?_
          refine AllReadyH.cons (o := { dst := some 41, op := Go.Op.load 57 (Go.Operand.tmp 40), type := 57, pos := "ref.go:76", after := #[{ on := 2, ground := Go.Ground.data }], guard := none }) rfl (fun K hK => ?_) (AllReadyH.nil)
          go_simp
          refine hK.out _ _ ?_ (fun hHeld => ?_)
          · exact hHeld
          clear hK K
          try simp only [Act.put, List.setIfInBounds_toArray, List.set_cons_zero, List.set_cons_succ]
          refine wpAnyH_take (i := 4) (oi := { dst := some 42, op := Go.Op.binOp Go.BinOp.mul 57 (Go.Operand.tmp 41) (Go.Operand.const (Go.Value.int Go.IntKind.u64 256)) 57, type := 57, pos := "ref.go:76", after := #[{ on := 3, ground := Go.Ground.data }], guard := none }) (v := ?a_3v4) rfl (by kernel_rfl) (by kernel_rfl) (by kernel_rfl) (fun _ _ _ h => hPan _ _ _ _ _ h) (Or.inl ⟨by rfl, ?a_3y4⟩) (by assumption) ?a_3r4
          case a_3y4 => (intro w hSw; (try dsimp only at hSw); go_simp; try (with_reducible rfl))
          case a_3r4 =>
          try simp only [Act.put, List.setIfInBounds_toArray, List.set_cons_zero, List.set_cons_succ]
          refine wpAnyH_take (i := 15) (oi := { dst := some 53, op := Go.Op.binOp Go.BinOp.add 57 (Go.Operand.tmp 42) (Go.Operand.tmp 52) 57, type := 57, pos := "ref.go:76", after := #[{ on := 4, ground := Go.Ground.data }, { on := 14, ground := Go.Ground.data }], guard := none }) (v := ?a_3v15) rfl (by kernel_rfl) (by kernel_rfl) (by kernel_rfl) (fun _ _ _ h => hPan _ _ _ _ _ h) (Or.inl ⟨by rfl, ?a_3y15⟩) (by assumption) ?a_3r15
          case a_3y15 => (intro w hSw; (try dsimp only at hSw); go_simp; try (with_reducible rfl))
          case a_3r15 =>
          try simp only [Act.put, List.setIfInBounds_toArray, List.set_cons_zero, List.set_cons_succ]
          refine wpAnyH_take (i := 16) (oi := { dst := some 54, op := Go.Op.indexAddr 103 (Go.Operand.tmp 7) (Go.Operand.tmp 38), type := 0, pos := "ref.go:76", after := #[{ on := 0, ground := Go.Ground.data }, { on := 0, ground := Go.Ground.phase }, { on := 1, ground := Go.Ground.phase }, { on := 2, ground := Go.Ground.phase }, { on := 3, ground := Go.Ground.phase }, { on := 4, ground := Go.Ground.phase }, { on := 5, ground := Go.Ground.phase }, { on := 6, ground := Go.Ground.phase }, { on := 7, ground := Go.Ground.phase }, { on := 8, ground := Go.Ground.phase }, { on := 9, ground := Go.Ground.phase }, { on := 10, ground := Go.Ground.phase }, { on := 11, ground := Go.Ground.phase }, { on := 12, ground := Go.Ground.phase }, { on := 13, ground := Go.Ground.phase }, { on := 14, ground := Go.Ground.phase }, { on := 15, ground := Go.Ground.phase }], guard := none }) (v := ?a_3v16) rfl (by kernel_rfl) (by kernel_rfl) (by kernel_rfl) (fun _ _ _ h => hPan _ _ _ _ _ h) (Or.inl ⟨by rfl, ?a_3y16⟩) (by assumption) ?a_3r16
          case a_3y16 => (intro w hSw; (try dsimp only at hSw); go_simp; try (with_reducible rfl))
          case a_3r16 =>
          try simp only [Act.put, List.setIfInBounds_toArray, List.set_cons_zero, List.set_cons_succ]
          refine wpAnyH_ready (rs := [17]) (by kernel_rfl) (by simp) ?_
          refine AllReadyH.cons (o := { dst := none, op := Go.Op.store 57 (Go.Operand.tmp 54) (Go.Operand.tmp 53), type := 0, pos := "ref.go:76", after := #[{ on := 16, ground := Go.Ground.data }, { on := 15, ground := Go.Ground.data }, { on := 0, ground := Go.Ground.phase }, { on := 1, ground := Go.Ground.phase }, { on := 2, ground := Go.Ground.phase }, { on := 3, ground := Go.Ground.phase }, { on := 4, ground := Go.Ground.phase }, { on := 5, ground := Go.Ground.phase }, { on := 6, ground := Go.Ground.phase }, { on := 7, ground := Go.Ground.phase }, { on := 8, ground := Go.Ground.phase }, { on := 9, ground := Go.Ground.phase }, { on := 10, ground := Go.Ground.phase }, { on := 11, ground := Go.Ground.phase }, { on := 12, ground := Go.Ground.phase }, { on := 13, ground := Go.Ground.phase }, { on := 14, ground := Go.Ground.phase }, { on := 15, ground := Go.Ground.phase }], guard := none }) rfl (fun K hK => ?_) (AllReadyH.nil)
          go_simp
          refine hK.out _ _ ?_ (fun hHeld => ?_)
          · exact (World.cell?_setCell_far wr.drew _ _ _ (by show W ≠ gm; omega)).trans hcu
          clear hK K
          try simp only [Act.put]
          refine wpAnyH_done (by kernel_rfl) ?_ _
          go_wp2_with fail
          have HS2 := HSET.out
          have HB2 := (BI.out.setCell (p := ⟨W, t, none⟩) (Nat.le_refl _) (.int .u64 z)).drew
          exact ⟨⟨i + 1, by omega, by go_num, by rw [← HZ.out]; exact HS2, HB2⟩, by simp [intOf]; omega⟩
        · obtain rfl : i = 8 := by omega
          rw [H4.out] at ri
          have RI := Lib.hid ri
          have BI := Lib.hid bi
          have e44 : ((8 : Nat) : Int) = 8 := rfl
          rw [e44]
          clear ri bi e44 hi4
          go_wp2_with fail
          exact ⟨⟨t + 1, by omega, by go_num, RI.out, BI.out⟩, by simp [intOf]; omega⟩
    · obtain rfl : t = 16 := by omega
      have e16 : ((16 : Nat) : Int) = 16 := rfl
      rw [e16]
      have RT := Lib.hid rt
      have BT := Lib.hid bt
      clear rt bt e16 h16
      go_wp2_with fail
      exact HQ.out _ _ _ _ _ _ _ _ _ _ _ _ _ _ _ _ _ _ _ _ _ _ _ _ _ _ _ _ RT.out BT.out
end Go.Proofs.YtfkpdbmgiefnfaaDoor.S5

/-
  The reference's Sum512: a block's sixty-four words. Conditions: none.
-/
namespace Go.Proofs.YtfkpdbmgiefnfaaDoor.S5
open Go.RowKit

set_option maxRecDepth 1000000 in
set_option maxHeartbeats 6400000 in
theorem rb6_any {Q : Exit → Act → World → Prop} (W : Nat) (bs : List UInt8) (w5 : World) (r0 : IRow w5 W 103 .u64 (padZ 80 (words16 bs))) (u0 u1 u2 u3 u4 u5 u6 u8 u9 u11 u12 u13 u14 u15 u16 u17 u18 u19 u20 u21 u22 u23 u24 u25 u26 u27 u28 u29 u30 u31 u32 u33 u34 u35 u36 u37 u38 u39 u40 u41 u42 u43 u44 u45 u46 u47 u48 u49 u50 u51 u52 u53 u54 u55 u56 u57 u58 u59 u60 u61 u62 u63 u64 u65 u66 u67 u68 u69 u70 u71 u72 u73 u74 u75 u76 u77 u78 u79 u80 u81 u82 u83 u84 u85 u86 u87 u88 u89 u90 u91 u92 u93 u94 u95 u96 u97 u98 u99 u100 u101 u102 u103 u104 u105 u106 u107 u108 u109 u110 u111 u112 u113 u114 u115 u116 u117 u118 u119 u120 u121 u122 u123 u124 u125 u126 u127 u128 u129 u130 u131 u132 u133 u134 u135 u136 u137 u138 u139 u140 u141 u142 u143 u144 u145 u146 u147 u148 u149 u150 u151 u152 u153 u154 u155 u156 u157 u158 u159 u160 u161 u162 u163 u164 u165 u166 u167 u168 u169 u170 u171 u172 u173 u174 u175 u176 u177 u178 u179 u180 u181 u182 u183 u184 u185 u186 u187 u188 u189 u190 u191 u192 u193 u194 u195 u196 u197 u198 u199 u200 u201 u202 u203 u204 u205 u206 u207 u208 u209 u210 u211 u212 u213 u214 u215 u216 u217 u218 u219 u220 u221 u222 u223 u224 u225 u226 u227 : Value)
    (hPan : ∀ (c : List PanicEntry) (a : Act) (d : Tmp) (v : Value) (w : World), Q (.panic c) (a.put (some d) v) w → Q (.panic c) a w)
    (hQ : ∀ (v10 v11 v12 v55 v56 v57 v58 v59 v60 v61 v62 v63 v64 v65 v66 v67 v68 v69 v70 v71 v72 v73 v74 v75 v76 v77 v78 v79 v80 v81 v82 v83 v84 v85 v86 v87 v88 v89 v90 v91 v92 v93 v94 v95 v96 v97 v98 v99 v100 v101 v102 v103 v104 v105 v106 v107 : Value) (w' : World), IRow w' W 103 .u64 (W80 bs) → Below W w5 w' → Q .normal ⟨#[u0, u1, u2, u3, u4, u5, u6, .pointer (some ⟨W, 0, none⟩), u8, u9, v10, v11, v12, u13, u14, u15, u16, u17, u18, u19, u20, u21, u22, u23, u24, u25, u26, u27, u28, u29, u30, u31, u32, u33, u34, u35, u36, u37, u38, u39, u40, u41, u42, u43, u44, u45, u46, u47, u48, u49, u50, u51, u52, u53, u54, v55, v56, v57, v58, v59, v60, v61, v62, v63, v64, v65, v66, v67, v68, v69, v70, v71, v72, v73, v74, v75, v76, v77, v78, v79, v80, v81, v82, v83, v84, v85, v86, v87, v88, v89, v90, v91, v92, v93, v94, v95, v96, v97, v98, v99, v100, v101, v102, v103, v104, v105, v106, v107, u108, u109, u110, u111, u112, u113, u114, u115, u116, u117, u118, u119, u120, u121, u122, u123, u124, u125, u126, u127, u128, u129, u130, u131, u132, u133, u134, u135, u136, u137, u138, u139, u140, u141, u142, u143, u144, u145, u146, u147, u148, u149, u150, u151, u152, u153, u154, u155, u156, u157, u158, u159, u160, u161, u162, u163, u164, u165, u166, u167, u168, u169, u170, u171, u172, u173, u174, u175, u176, u177, u178, u179, u180, u181, u182, u183, u184, u185, u186, u187, u188, u189, u190, u191, u192, u193, u194, u195, u196, u197, u198, u199, u200, u201, u202, u203, u204, u205, u206, u207, u208, u209, u210, u211, u212, u213, u214, u215, u216, u217, u218, u219, u220, u221, u222, u223, u224, u225, u226, u227], []⟩ w') :
    Code.wp Tryd.prog (blkOf 6 Tryd.f31) Q ⟨#[u0, u1, u2, u3, u4, u5, u6, .pointer (some ⟨W, 0, none⟩), u8, u9, .int .i64 16, u11, u12, u13, u14, u15, u16, u17, u18, u19, u20, u21, u22, u23, u24, u25, u26, u27, u28, u29, u30, u31, u32, u33, u34, u35, u36, u37, u38, u39, u40, u41, u42, u43, u44, u45, u46, u47, u48, u49, u50, u51, u52, u53, u54, u55, u56, u57, u58, u59, u60, u61, u62, u63, u64, u65, u66, u67, u68, u69, u70, u71, u72, u73, u74, u75, u76, u77, u78, u79, u80, u81, u82, u83, u84, u85, u86, u87, u88, u89, u90, u91, u92, u93, u94, u95, u96, u97, u98, u99, u100, u101, u102, u103, u104, u105, u106, u107, u108, u109, u110, u111, u112, u113, u114, u115, u116, u117, u118, u119, u120, u121, u122, u123, u124, u125, u126, u127, u128, u129, u130, u131, u132, u133, u134, u135, u136, u137, u138, u139, u140, u141, u142, u143, u144, u145, u146, u147, u148, u149, u150, u151, u152, u153, u154, u155, u156, u157, u158, u159, u160, u161, u162, u163, u164, u165, u166, u167, u168, u169, u170, u171, u172, u173, u174, u175, u176, u177, u178, u179, u180, u181, u182, u183, u184, u185, u186, u187, u188, u189, u190, u191, u192, u193, u194, u195, u196, u197, u198, u199, u200, u201, u202, u203, u204, u205, u206, u207, u208, u209, u210, u211, u212, u213, u214, u215, u216, u217, u218, u219, u220, u221, u222, u223, u224, u225, u226, u227], []⟩ w5 := by
  conv => arg 2; whnf
  have HQ := Lib.hid hQ
  have R0 := Lib.hid r0
  clear hQ r0
  go_wp2_with fail
  go_loopw [10] (fun v10 wr => ∃ n t : Nat, n ≤ 64 ∧ Hid (t = 16 + n) ∧ 16 ≤ t ∧ t ≤ 80 ∧ v10 = .int .i64 (t : Int) ∧ IRow wr W 103 .u64 (padZ 80 (schedN (words16 bs) n)) ∧ Below W w5 wr) (fun v10 _ => 80 - (intOf v10).toNat)
  case atStart => exact ⟨0, 16, by omega, Lib.hid rfl, by omega, by omega, rfl, R0.out, Below.refl _ _⟩
  case round =>
    obtain ⟨n, t, hn, ht2, hg16, hle64, rfl, hrow, hbel⟩ := hrel
    obtain ⟨ws, hws⟩ : ∃ ws, ws = schedN (words16 bs) n := ⟨_, rfl⟩
    have hwl : ws.length = t := by rw [hws, schedN_length, ht2.out]; rfl
    rw [← hws] at hrow
    by_cases h64 : t < 80
    · obtain ⟨i1, hi1⟩ : ∃ i, i = t - 15 := ⟨_, rfl⟩
      obtain ⟨i2, hi2⟩ : ∃ i, i = t - 2 := ⟨_, rfl⟩
      obtain ⟨i3, hi3⟩ : ∃ i, i = t - 7 := ⟨_, rfl⟩
      obtain ⟨i4, hi4⟩ : ∃ i, i = t - 16 := ⟨_, rfl⟩
      have w1 : IntKind.i64.wrap ((t : Int) - 15) = (i1 : Int) := by rw [IntWalk.i64_in _ (by omega)]; omega
      have w2 : IntKind.i64.wrap ((t : Int) - 2) = (i2 : Int) := by rw [IntWalk.i64_in _ (by omega)]; omega
      have w3 : IntKind.i64.wrap ((t : Int) - 7) = (i3 : Int) := by rw [IntWalk.i64_in _ (by omega)]; omega
      have w4 : IntKind.i64.wrap ((t : Int) - 16) = (i4 : Int) := by rw [IntWalk.i64_in _ (by omega)]; omega
      have b1 : (i1 : Int) < 80 := by omega
      have b2 : (i2 : Int) < 80 := by omega
      have b3 : (i3 : Int) < 80 := by omega
      have b4 : (i4 : Int) < 80 := by omega
      have bt : (t : Int) < 80 := by omega
      have n3 : i3 ≠ t := by omega
      have n4 : i4 ≠ t := by omega
      obtain ⟨x, hx⟩ : ∃ x, ws[i1]? = some x := ⟨_, List.getElem?_eq_getElem (by omega)⟩
      obtain ⟨y, hy⟩ : ∃ y, ws[i2]? = some y := ⟨_, List.getElem?_eq_getElem (by omega)⟩
      obtain ⟨u, hu⟩ : ∃ u, ws[i3]? = some u := ⟨_, List.getElem?_eq_getElem (by omega)⟩
      obtain ⟨v, hv⟩ : ∃ v, ws[i4]? = some v := ⟨_, List.getElem?_eq_getElem (by omega)⟩
      have k1 := hrow.cell (padZ_low (n := 80) hx)
      have k2 := hrow.cell (padZ_low (n := 80) hy)
      have k3 := hrow.cell (padZ_low (n := 80) hu)
      have k4 := hrow.cell (padZ_low (n := 80) hv)
      have k5 : wr.cell? ⟨W, t, none⟩ = some (.int .u64 0) := hrow.cell (by have := padZ_next (n := 80) (l := ws) (by omega); rw [hwl] at this; exact this)
      have kf := hrow.free t
      have hnw : nextW ws = IntKind.u64.wrap (IntKind.u64.wrap (IntKind.u64.wrap (small1 y + u) + small0 x) + v) := by
        unfold nextW
        rw [hwl, ← hi1, ← hi2, ← hi3, ← hi4]
        simp only [List.getD_eq_getElem?_getD, hx, hy, hu, hv, Option.getD_some, u64_wrap]
        rfl
      have hsn : schedN (words16 bs) (n + 1) = ws ++ [nextW ws] := by rw [schedN, ← hws]
      have hset := hrow.set t (nextW ws)
      have hpz := padZ_set (n := 80) (l := ws) (z := nextW ws) (by omega)
      rw [hwl] at hpz
      rw [hpz, ← hsn] at hset
      rw [hnw] at hset
      have hux : U64 x := sched_u bs n x (by rw [← hws]; exact List.mem_of_getElem? hx)
      have huy : U64 y := sched_u bs n y (by rw [← hws]; exact List.mem_of_getElem? hy)
      have C1 := Lib.hid (fun W => rrot_any x 1 63 W hux (by omega))
      have C2 := Lib.hid (fun W => rrot_any x 8 56 W hux (by omega))
      have C3 := Lib.hid (fun W => rrot_any y 19 45 W huy (by omega))
      have C4 := Lib.hid (fun W => rrot_any y 61 3 W huy (by omega))
      have HSET := Lib.hid hset
      have HBEL := Lib.hid hbel
      clear hset hnw hsn hpz hrow hbel hx hy hu hv hws hwl hi1 hi2 hi3 hi4
      go_wp2_with fail
      refine wp_region_held_drew (S := (fun w' => w'.cell? ⟨W, i1, none⟩ = some (.int .u64 x))) (by kernel_rfl) ?_ (fun hHeld => ?_)
      · exact k1
      refine wpAnyH_take (i := 0) (oi := { dst := some 59, op := Go.Op.move (Go.Operand.tmp 10), type := 3, pos := "ref.go:80", after := #[], guard := none }) (v := ?av0) rfl (by kernel_rfl) (by kernel_rfl) (by kernel_rfl) (fun _ _ _ h => hPan _ _ _ _ _ h) (Or.inl ⟨by rfl, ?ay0⟩) (by assumption) ?ar0
      case ay0 => (intro w hSw; (try dsimp only at hSw); go_simp; try (with_reducible rfl))
      case ar0 =>
      try simp only [Act.put, List.setIfInBounds_toArray, List.set_cons_zero, List.set_cons_succ]
      refine wpAnyH_take (i := 1) (oi := { dst := some 60, op := Go.Op.binOp Go.BinOp.sub 3 (Go.Operand.tmp 59) (Go.Operand.const (Go.Value.int Go.IntKind.i64 15)) 3, type := 3, pos := "ref.go:80", after := #[{ on := 0, ground := Go.Ground.data }], guard := none }) (v := ?av1) rfl (by kernel_rfl) (by kernel_rfl) (by kernel_rfl) (fun _ _ _ h => hPan _ _ _ _ _ h) (Or.inl ⟨by rfl, ?ay1⟩) (by assumption) ?ar1
      case ay1 => (intro w hSw; (try dsimp only at hSw); go_simp; try (with_reducible rfl))
      case ar1 =>
      try simp only [Act.put, List.setIfInBounds_toArray, List.set_cons_zero, List.set_cons_succ]
      refine wpAnyH_take (i := 2) (oi := { dst := some 61, op := Go.Op.indexAddr 103 (Go.Operand.tmp 7) (Go.Operand.tmp 60), type := 0, pos := "ref.go:80", after := #[{ on := 1, ground := Go.Ground.data }], guard := none }) (v := ?av2) rfl (by kernel_rfl) (by kernel_rfl) (by kernel_rfl) (fun _ _ _ h => hPan _ _ _ _ _ h) (Or.inl ⟨by rfl, ?ay2⟩) (by assumption) ?ar2
      case ay2 => (intro w hSw; (try dsimp only at hSw); go_simp; try (with_reducible rfl))
      case ar2 =>
      try simp only [Act.put, List.setIfInBounds_toArray, List.set_cons_zero, List.set_cons_succ]
      refine wpAnyH_take (i := 3) (oi := { dst := some 62, op := Go.Op.load 57 (Go.Operand.tmp 61), type := 57, pos := "ref.go:80", after := #[{ on := 2, ground := Go.Ground.data }], guard := none }) (v := ?av3) rfl (by kernel_rfl) (by kernel_rfl) (by kernel_rfl) (fun _ _ _ h => hPan _ _ _ _ _ h) (Or.inl ⟨by rfl, ?ay3⟩) (by assumption) ?ar3
      case ay3 => (intro w hSw; (try dsimp only at hSw); go_simp; try (with_reducible rfl))
      case ar3 =>
      try simp only [Act.put, List.setIfInBounds_toArray, List.set_cons_zero, List.set_cons_succ]
      refine wpAnyH_take (i := 5) (oi := { dst := some 64, op := Go.Op.move (Go.Operand.tmp 10), type := 3, pos := "ref.go:80", after := #[], guard := none }) (v := ?av5) rfl (by kernel_rfl) (by kernel_rfl) (by kernel_rfl) (fun _ _ _ h => hPan _ _ _ _ _ h) (Or.inl ⟨by rfl, ?ay5⟩) (by assumption) ?ar5
      case ay5 => (intro w hSw; (try dsimp only at hSw); go_simp; try (with_reducible rfl))
      case ar5 =>
      try simp only [Act.put, List.setIfInBounds_toArray, List.set_cons_zero, List.set_cons_succ]
      refine wpAnyH_take (i := 6) (oi := { dst := some 65, op := Go.Op.binOp Go.BinOp.sub 3 (Go.Operand.tmp 64) (Go.Operand.const (Go.Value.int Go.IntKind.i64 15)) 3, type := 3, pos := "ref.go:80", after := #[{ on := 5, ground := Go.Ground.data }], guard := none }) (v := ?av6) rfl (by kernel_rfl) (by kernel_rfl) (by kernel_rfl) (fun _ _ _ h => hPan _ _ _ _ _ h) (Or.inl ⟨by rfl, ?ay6⟩) (by assumption) ?ar6
      case ay6 => (intro w hSw; (try dsimp only at hSw); go_simp; try (with_reducible rfl))
      case ar6 =>
      try simp only [Act.put, List.setIfInBounds_toArray, List.set_cons_zero, List.set_cons_succ]
      refine wpAnyH_take (i := 7) (oi := { dst := some 66, op := Go.Op.indexAddr 103 (Go.Operand.tmp 7) (Go.Operand.tmp 65), type := 0, pos := "ref.go:80", after := #[{ on := 6, ground := Go.Ground.data }], guard := none }) (v := ?av7) rfl (by kernel_rfl) (by kernel_rfl) (by kernel_rfl) (fun _ _ _ h => hPan _ _ _ _ _ h) (Or.inl ⟨by rfl, ?ay7⟩) (by assumption) ?ar7
      case ay7 => (intro w hSw; (try dsimp only at hSw); go_simp; try (with_reducible rfl))
      case ar7 =>
      try simp only [Act.put, List.setIfInBounds_toArray, List.set_cons_zero, List.set_cons_succ]
      refine wpAnyH_take (i := 8) (oi := { dst := some 67, op := Go.Op.load 57 (Go.Operand.tmp 66), type := 57, pos := "ref.go:80", after := #[{ on := 7, ground := Go.Ground.data }], guard := none }) (v := ?av8) rfl (by kernel_rfl) (by kernel_rfl) (by kernel_rfl) (fun _ _ _ h => hPan _ _ _ _ _ h) (Or.inl ⟨by rfl, ?ay8⟩) (by assumption) ?ar8
      case ay8 => (intro w hSw; (try dsimp only at hSw); go_simp; try (with_reducible rfl))
      case ar8 =>
      try simp only [Act.put, List.setIfInBounds_toArray, List.set_cons_zero, List.set_cons_succ]
      refine wpAnyH_take (i := 11) (oi := { dst := some 70, op := Go.Op.move (Go.Operand.tmp 10), type := 3, pos := "ref.go:80", after := #[], guard := none }) (v := ?av11) rfl (by kernel_rfl) (by kernel_rfl) (by kernel_rfl) (fun _ _ _ h => hPan _ _ _ _ _ h) (Or.inl ⟨by rfl, ?ay11⟩) (by assumption) ?ar11
      case ay11 => (intro w hSw; (try dsimp only at hSw); go_simp; try (with_reducible rfl))
      case ar11 =>
      try simp only [Act.put, List.setIfInBounds_toArray, List.set_cons_zero, List.set_cons_succ]
      refine wpAnyH_take (i := 12) (oi := { dst := some 71, op := Go.Op.binOp Go.BinOp.sub 3 (Go.Operand.tmp 70) (Go.Operand.const (Go.Value.int Go.IntKind.i64 15)) 3, type := 3, pos := "ref.go:80", after := #[{ on := 11, ground := Go.Ground.data }], guard := none }) (v := ?av12) rfl (by kernel_rfl) (by kernel_rfl) (by kernel_rfl) (fun _ _ _ h => hPan _ _ _ _ _ h) (Or.inl ⟨by rfl, ?ay12⟩) (by assumption) ?ar12
      case ay12 => (intro w hSw; (try dsimp only at hSw); go_simp; try (with_reducible rfl))
      case ar12 =>
      try simp only [Act.put, List.setIfInBounds_toArray, List.set_cons_zero, List.set_cons_succ]
      refine wpAnyH_take (i := 13) (oi := { dst := some 72, op := Go.Op.indexAddr 103 (Go.Operand.tmp 7) (Go.Operand.tmp 71), type := 0, pos := "ref.go:80", after := #[{ on := 12, ground := Go.Ground.data }], guard := none }) (v := ?av13) rfl (by kernel_rfl) (by kernel_rfl) (by kernel_rfl) (fun _ _ _ h => hPan _ _ _ _ _ h) (Or.inl ⟨by rfl, ?ay13⟩) (by assumption) ?ar13
      case ay13 => (intro w hSw; (try dsimp only at hSw); go_simp; try (with_reducible rfl))
      case ar13 =>
      try simp only [Act.put, List.setIfInBounds_toArray, List.set_cons_zero, List.set_cons_succ]
      refine wpAnyH_take (i := 14) (oi := { dst := some 73, op := Go.Op.load 57 (Go.Operand.tmp 72), type := 57, pos := "ref.go:80", after := #[{ on := 13, ground := Go.Ground.data }], guard := none }) (v := ?av14) rfl (by kernel_rfl) (by kernel_rfl) (by kernel_rfl) (fun _ _ _ h => hPan _ _ _ _ _ h) (Or.inl ⟨by rfl, ?ay14⟩) (by assumption) ?ar14
      case ay14 => (intro w hSw; (try dsimp only at hSw); go_simp; try (with_reducible rfl))
      case ar14 =>
      try simp only [Act.put, List.setIfInBounds_toArray, List.set_cons_zero, List.set_cons_succ]
      refine wpAnyH_take (i := 15) (oi := { dst := some 74, op := Go.Op.binOp Go.BinOp.shr 57 (Go.Operand.tmp 73) (Go.Operand.const (Go.Value.int Go.IntKind.u64 7)) 99, type := 57, pos := "ref.go:80", after := #[{ on := 14, ground := Go.Ground.data }], guard := none }) (v := ?av15) rfl (by kernel_rfl) (by kernel_rfl) (by kernel_rfl) (fun _ _ _ h => hPan _ _ _ _ _ h) (Or.inl ⟨by rfl, ?ay15⟩) (by assumption) ?ar15
      case ay15 => (intro w hSw; (try dsimp only at hSw); go_simp; try (with_reducible rfl))
      case ar15 =>
      try simp only [Act.put, List.setIfInBounds_toArray, List.set_cons_zero, List.set_cons_succ]
      refine wpAnyH_ready (rs := [4]) (by kernel_rfl) (by simp) ?_
      refine AllReadyH.cons (o := { dst := some 63, op := Go.Op.call { callee := Go.Callee.value (Go.Operand.func 49), args := #[Go.Operand.tmp 62, Go.Operand.const (Go.Value.int Go.IntKind.i64 1)], argTypes := #[57, 3] }, type := 57, pos := "ref.go:80", after := #[{ on := 3, ground := Go.Ground.data }], guard := none }) rfl (fun K hK => ?_) (AllReadyH.nil)
      go_simp
      refine (C1.out _).mono ?_
      rintro e w6 ⟨rfl, rfl⟩
      go_simp
      refine hK.out _ _ ?_ (fun hHeld => ?_)
      · exact hHeld
      clear hK K
      try simp only [Act.put, List.setIfInBounds_toArray, List.set_cons_zero, List.set_cons_succ]
      refine wpAnyH_ready (rs := [9]) (by kernel_rfl) (by simp) ?_
      refine AllReadyH.cons (o := { dst := some 68, op := Go.Op.call { callee := Go.Callee.value (Go.Operand.func 49), args := #[Go.Operand.tmp 67, Go.Operand.const (Go.Value.int Go.IntKind.i64 8)], argTypes := #[57, 3] }, type := 57, pos := "ref.go:80", after := #[{ on := 8, ground := Go.Ground.data }, { on := 4, ground := Go.Ground.chain }], guard := none }) rfl (fun K hK => ?_) (AllReadyH.nil)
      go_simp
      refine (C2.out _).mono ?_
      rintro e w6 ⟨rfl, rfl⟩
      go_simp
      refine hK.out _ _ ?_ (fun hHeld => ?_)
      · exact hHeld
      clear hK K
      try simp only [Act.put, List.setIfInBounds_toArray, List.set_cons_zero, List.set_cons_succ]
      refine wpAnyH_take (i := 10) (oi := { dst := some 69, op := Go.Op.binOp Go.BinOp.xor 57 (Go.Operand.tmp 63) (Go.Operand.tmp 68) 57, type := 57, pos := "ref.go:80", after := #[{ on := 4, ground := Go.Ground.data }, { on := 9, ground := Go.Ground.data }], guard := none }) (v := ?a_4_9v10) rfl (by kernel_rfl) (by kernel_rfl) (by kernel_rfl) (fun _ _ _ h => hPan _ _ _ _ _ h) (Or.inl ⟨by rfl, ?a_4_9y10⟩) (by assumption) ?a_4_9r10
      case a_4_9y10 => (intro w hSw; (try dsimp only at hSw); go_simp; try (with_reducible rfl))
      case a_4_9r10 =>
      try simp only [Act.put, List.setIfInBounds_toArray, List.set_cons_zero, List.set_cons_succ]
      refine wpAnyH_take (i := 16) (oi := { dst := some 75, op := Go.Op.binOp Go.BinOp.xor 57 (Go.Operand.tmp 69) (Go.Operand.tmp 74) 57, type := 57, pos := "ref.go:80", after := #[{ on := 10, ground := Go.Ground.data }, { on := 15, ground := Go.Ground.data }], guard := none }) (v := ?a_4_9v16) rfl (by kernel_rfl) (by kernel_rfl) (by kernel_rfl) (fun _ _ _ h => hPan _ _ _ _ _ h) (Or.inl ⟨by rfl, ?a_4_9y16⟩) (by assumption) ?a_4_9r16
      case a_4_9y16 => (intro w hSw; (try dsimp only at hSw); go_simp; try (with_reducible rfl))
      case a_4_9r16 =>
      try simp only [Act.put, List.setIfInBounds_toArray, List.set_cons_zero, List.set_cons_succ]
      refine wpAnyH_take (i := 17) (oi := { dst := some 11, op := Go.Op.assign (Go.Operand.tmp 75), type := 57, pos := "ref.go:80", after := #[{ on := 16, ground := Go.Ground.data }, { on := 9, ground := Go.Ground.chain }, { on := 0, ground := Go.Ground.phase }, { on := 1, ground := Go.Ground.phase }, { on := 2, ground := Go.Ground.phase }, { on := 3, ground := Go.Ground.phase }, { on := 4, ground := Go.Ground.phase }, { on := 5, ground := Go.Ground.phase }, { on := 6, ground := Go.Ground.phase }, { on := 7, ground := Go.Ground.phase }, { on := 8, ground := Go.Ground.phase }, { on := 9, ground := Go.Ground.phase }, { on := 10, ground := Go.Ground.phase }, { on := 11, ground := Go.Ground.phase }, { on := 12, ground := Go.Ground.phase }, { on := 13, ground := Go.Ground.phase }, { on := 14, ground := Go.Ground.phase }, { on := 15, ground := Go.Ground.phase }, { on := 16, ground := Go.Ground.phase }], guard := none }) (v := ?a_4_9v17) rfl (by kernel_rfl) (by kernel_rfl) (by kernel_rfl) (fun _ _ _ h => hPan _ _ _ _ _ h) (Or.inl ⟨by rfl, ?a_4_9y17⟩) (by assumption) ?a_4_9r17
      case a_4_9y17 => (intro w hSw; (try dsimp only at hSw); go_simp; try (with_reducible rfl))
      case a_4_9r17 =>
      try simp only [Act.put, List.setIfInBounds_toArray, List.set_cons_zero, List.set_cons_succ]
      refine wpAnyH_done (by kernel_rfl) ?_ _
      obtain ⟨s0, hs0⟩ : ∃ z, z = small0 x := ⟨_, rfl⟩
      have es0 : bits .xor .u64 (bits .xor .u64 (rot64 63 x) (rot64 56 x)) (x / 128) = s0 := hs0.symm
      rw [es0]
      rw [← hs0] at HSET
      clear hs0 es0
      go_wp2_with fail
      refine wp_region_held_drew (S := (fun w' => w'.cell? ⟨W, i2, none⟩ = some (.int .u64 y))) (by kernel_rfl) ?_ (fun hHeld => ?_)
      · exact k2
      refine wpAnyH_take (i := 0) (oi := { dst := some 76, op := Go.Op.move (Go.Operand.tmp 10), type := 3, pos := "ref.go:81", after := #[], guard := none }) (v := ?bv0) rfl (by kernel_rfl) (by kernel_rfl) (by kernel_rfl) (fun _ _ _ h => hPan _ _ _ _ _ h) (Or.inl ⟨by rfl, ?by0⟩) (by assumption) ?br0
      case by0 => (intro w hSw; (try dsimp only at hSw); go_simp; try (with_reducible rfl))
      case br0 =>
      try simp only [Act.put, List.setIfInBounds_toArray, List.set_cons_zero, List.set_cons_succ]
      refine wpAnyH_take (i := 1) (oi := { dst := some 77, op := Go.Op.binOp Go.BinOp.sub 3 (Go.Operand.tmp 76) (Go.Operand.const (Go.Value.int Go.IntKind.i64 2)) 3, type := 3, pos := "ref.go:81", after := #[{ on := 0, ground := Go.Ground.data }], guard := none }) (v := ?bv1) rfl (by kernel_rfl) (by kernel_rfl) (by kernel_rfl) (fun _ _ _ h => hPan _ _ _ _ _ h) (Or.inl ⟨by rfl, ?by1⟩) (by assumption) ?br1
      case by1 => (intro w hSw; (try dsimp only at hSw); go_simp; try (with_reducible rfl))
      case br1 =>
      try simp only [Act.put, List.setIfInBounds_toArray, List.set_cons_zero, List.set_cons_succ]
      refine wpAnyH_take (i := 2) (oi := { dst := some 78, op := Go.Op.indexAddr 103 (Go.Operand.tmp 7) (Go.Operand.tmp 77), type := 0, pos := "ref.go:81", after := #[{ on := 1, ground := Go.Ground.data }], guard := none }) (v := ?bv2) rfl (by kernel_rfl) (by kernel_rfl) (by kernel_rfl) (fun _ _ _ h => hPan _ _ _ _ _ h) (Or.inl ⟨by rfl, ?by2⟩) (by assumption) ?br2
      case by2 => (intro w hSw; (try dsimp only at hSw); go_simp; try (with_reducible rfl))
      case br2 =>
      try simp only [Act.put, List.setIfInBounds_toArray, List.set_cons_zero, List.set_cons_succ]
      refine wpAnyH_take (i := 3) (oi := { dst := some 79, op := Go.Op.load 57 (Go.Operand.tmp 78), type := 57, pos := "ref.go:81", after := #[{ on := 2, ground := Go.Ground.data }], guard := none }) (v := ?bv3) rfl (by kernel_rfl) (by kernel_rfl) (by kernel_rfl) (fun _ _ _ h => hPan _ _ _ _ _ h) (Or.inl ⟨by rfl, ?by3⟩) (by assumption) ?br3
      case by3 => (intro w hSw; (try dsimp only at hSw); go_simp; try (with_reducible rfl))
      case br3 =>
      try simp only [Act.put, List.setIfInBounds_toArray, List.set_cons_zero, List.set_cons_succ]
      refine wpAnyH_take (i := 5) (oi := { dst := some 81, op := Go.Op.move (Go.Operand.tmp 10), type := 3, pos := "ref.go:81", after := #[], guard := none }) (v := ?bv5) rfl (by kernel_rfl) (by kernel_rfl) (by kernel_rfl) (fun _ _ _ h => hPan _ _ _ _ _ h) (Or.inl ⟨by rfl, ?by5⟩) (by assumption) ?br5
      case by5 => (intro w hSw; (try dsimp only at hSw); go_simp; try (with_reducible rfl))
      case br5 =>
      try simp only [Act.put, List.setIfInBounds_toArray, List.set_cons_zero, List.set_cons_succ]
      refine wpAnyH_take (i := 6) (oi := { dst := some 82, op := Go.Op.binOp Go.BinOp.sub 3 (Go.Operand.tmp 81) (Go.Operand.const (Go.Value.int Go.IntKind.i64 2)) 3, type := 3, pos := "ref.go:81", after := #[{ on := 5, ground := Go.Ground.data }], guard := none }) (v := ?bv6) rfl (by kernel_rfl) (by kernel_rfl) (by kernel_rfl) (fun _ _ _ h => hPan _ _ _ _ _ h) (Or.inl ⟨by rfl, ?by6⟩) (by assumption) ?br6
      case by6 => (intro w hSw; (try dsimp only at hSw); go_simp; try (with_reducible rfl))
      case br6 =>
      try simp only [Act.put, List.setIfInBounds_toArray, List.set_cons_zero, List.set_cons_succ]
      refine wpAnyH_take (i := 7) (oi := { dst := some 83, op := Go.Op.indexAddr 103 (Go.Operand.tmp 7) (Go.Operand.tmp 82), type := 0, pos := "ref.go:81", after := #[{ on := 6, ground := Go.Ground.data }], guard := none }) (v := ?bv7) rfl (by kernel_rfl) (by kernel_rfl) (by kernel_rfl) (fun _ _ _ h => hPan _ _ _ _ _ h) (Or.inl ⟨by rfl, ?by7⟩) (by assumption) ?br7
      case by7 => (intro w hSw; (try dsimp only at hSw); go_simp; try (with_reducible rfl))
      case br7 =>
      try simp only [Act.put, List.setIfInBounds_toArray, List.set_cons_zero, List.set_cons_succ]
      refine wpAnyH_take (i := 8) (oi := { dst := some 84, op := Go.Op.load 57 (Go.Operand.tmp 83), type := 57, pos := "ref.go:81", after := #[{ on := 7, ground := Go.Ground.data }], guard := none }) (v := ?bv8) rfl (by kernel_rfl) (by kernel_rfl) (by kernel_rfl) (fun _ _ _ h => hPan _ _ _ _ _ h) (Or.inl ⟨by rfl, ?by8⟩) (by assumption) ?br8
      case by8 => (intro w hSw; (try dsimp only at hSw); go_simp; try (with_reducible rfl))
      case br8 =>
      try simp only [Act.put, List.setIfInBounds_toArray, List.set_cons_zero, List.set_cons_succ]
      refine wpAnyH_take (i := 11) (oi := { dst := some 87, op := Go.Op.move (Go.Operand.tmp 10), type := 3, pos := "ref.go:81", after := #[], guard := none }) (v := ?bv11) rfl (by kernel_rfl) (by kernel_rfl) (by kernel_rfl) (fun _ _ _ h => hPan _ _ _ _ _ h) (Or.inl ⟨by rfl, ?by11⟩) (by assumption) ?br11
      case by11 => (intro w hSw; (try dsimp only at hSw); go_simp; try (with_reducible rfl))
      case br11 =>
      try simp only [Act.put, List.setIfInBounds_toArray, List.set_cons_zero, List.set_cons_succ]
      refine wpAnyH_take (i := 12) (oi := { dst := some 88, op := Go.Op.binOp Go.BinOp.sub 3 (Go.Operand.tmp 87) (Go.Operand.const (Go.Value.int Go.IntKind.i64 2)) 3, type := 3, pos := "ref.go:81", after := #[{ on := 11, ground := Go.Ground.data }], guard := none }) (v := ?bv12) rfl (by kernel_rfl) (by kernel_rfl) (by kernel_rfl) (fun _ _ _ h => hPan _ _ _ _ _ h) (Or.inl ⟨by rfl, ?by12⟩) (by assumption) ?br12
      case by12 => (intro w hSw; (try dsimp only at hSw); go_simp; try (with_reducible rfl))
      case br12 =>
      try simp only [Act.put, List.setIfInBounds_toArray, List.set_cons_zero, List.set_cons_succ]
      refine wpAnyH_take (i := 13) (oi := { dst := some 89, op := Go.Op.indexAddr 103 (Go.Operand.tmp 7) (Go.Operand.tmp 88), type := 0, pos := "ref.go:81", after := #[{ on := 12, ground := Go.Ground.data }], guard := none }) (v := ?bv13) rfl (by kernel_rfl) (by kernel_rfl) (by kernel_rfl) (fun _ _ _ h => hPan _ _ _ _ _ h) (Or.inl ⟨by rfl, ?by13⟩) (by assumption) ?br13
      case by13 => (intro w hSw; (try dsimp only at hSw); go_simp; try (with_reducible rfl))
      case br13 =>
      try simp only [Act.put, List.setIfInBounds_toArray, List.set_cons_zero, List.set_cons_succ]
      refine wpAnyH_take (i := 14) (oi := { dst := some 90, op := Go.Op.load 57 (Go.Operand.tmp 89), type := 57, pos := "ref.go:81", after := #[{ on := 13, ground := Go.Ground.data }], guard := none }) (v := ?bv14) rfl (by kernel_rfl) (by kernel_rfl) (by kernel_rfl) (fun _ _ _ h => hPan _ _ _ _ _ h) (Or.inl ⟨by rfl, ?by14⟩) (by assumption) ?br14
      case by14 => (intro w hSw; (try dsimp only at hSw); go_simp; try (with_reducible rfl))
      case br14 =>
      try simp only [Act.put, List.setIfInBounds_toArray, List.set_cons_zero, List.set_cons_succ]
      refine wpAnyH_take (i := 15) (oi := { dst := some 91, op := Go.Op.binOp Go.BinOp.shr 57 (Go.Operand.tmp 90) (Go.Operand.const (Go.Value.int Go.IntKind.u64 6)) 99, type := 57, pos := "ref.go:81", after := #[{ on := 14, ground := Go.Ground.data }], guard := none }) (v := ?bv15) rfl (by kernel_rfl) (by kernel_rfl) (by kernel_rfl) (fun _ _ _ h => hPan _ _ _ _ _ h) (Or.inl ⟨by rfl, ?by15⟩) (by assumption) ?br15
      case by15 => (intro w hSw; (try dsimp only at hSw); go_simp; try (with_reducible rfl))
      case br15 =>
      try simp only [Act.put, List.setIfInBounds_toArray, List.set_cons_zero, List.set_cons_succ]
      refine wpAnyH_ready (rs := [4]) (by kernel_rfl) (by simp) ?_
      refine AllReadyH.cons (o := { dst := some 80, op := Go.Op.call { callee := Go.Callee.value (Go.Operand.func 49), args := #[Go.Operand.tmp 79, Go.Operand.const (Go.Value.int Go.IntKind.i64 19)], argTypes := #[57, 3] }, type := 57, pos := "ref.go:81", after := #[{ on := 3, ground := Go.Ground.data }], guard := none }) rfl (fun K hK => ?_) (AllReadyH.nil)
      go_simp
      refine (C3.out _).mono ?_
      rintro e w6 ⟨rfl, rfl⟩
      go_simp
      refine hK.out _ _ ?_ (fun hHeld => ?_)
      · exact hHeld
      clear hK K
      try simp only [Act.put, List.setIfInBounds_toArray, List.set_cons_zero, List.set_cons_succ]
      refine wpAnyH_ready (rs := [9]) (by kernel_rfl) (by simp) ?_
      refine AllReadyH.cons (o := { dst := some 85, op := Go.Op.call { callee := Go.Callee.value (Go.Operand.func 49), args := #[Go.Operand.tmp 84, Go.Operand.const (Go.Value.int Go.IntKind.i64 61)], argTypes := #[57, 3] }, type := 57, pos := "ref.go:81", after := #[{ on := 8, ground := Go.Ground.data }, { on := 4, ground := Go.Ground.chain }], guard := none }) rfl (fun K hK => ?_) (AllReadyH.nil)
      go_simp
      refine (C4.out _).mono ?_
      rintro e w6 ⟨rfl, rfl⟩
      go_simp
      refine hK.out _ _ ?_ (fun hHeld => ?_)
      · exact hHeld
      clear hK K
      try simp only [Act.put, List.setIfInBounds_toArray, List.set_cons_zero, List.set_cons_succ]
      refine wpAnyH_take (i := 10) (oi := { dst := some 86, op := Go.Op.binOp Go.BinOp.xor 57 (Go.Operand.tmp 80) (Go.Operand.tmp 85) 57, type := 57, pos := "ref.go:81", after := #[{ on := 4, ground := Go.Ground.data }, { on := 9, ground := Go.Ground.data }], guard := none }) (v := ?b_4_9v10) rfl (by kernel_rfl) (by kernel_rfl) (by kernel_rfl) (fun _ _ _ h => hPan _ _ _ _ _ h) (Or.inl ⟨by rfl, ?b_4_9y10⟩) (by assumption) ?b_4_9r10
      case b_4_9y10 => (intro w hSw; (try dsimp only at hSw); go_simp; try (with_reducible rfl))
      case b_4_9r10 =>
      try simp only [Act.put, List.setIfInBounds_toArray, List.set_cons_zero, List.set_cons_succ]
      refine wpAnyH_take (i := 16) (oi := { dst := some 92, op := Go.Op.binOp Go.BinOp.xor 57 (Go.Operand.tmp 86) (Go.Operand.tmp 91) 57, type := 57, pos := "ref.go:81", after := #[{ on := 10, ground := Go.Ground.data }, { on := 15, ground := Go.Ground.data }], guard := none }) (v := ?b_4_9v16) rfl (by kernel_rfl) (by kernel_rfl) (by kernel_rfl) (fun _ _ _ h => hPan _ _ _ _ _ h) (Or.inl ⟨by rfl, ?b_4_9y16⟩) (by assumption) ?b_4_9r16
      case b_4_9y16 => (intro w hSw; (try dsimp only at hSw); go_simp; try (with_reducible rfl))
      case b_4_9r16 =>
      try simp only [Act.put, List.setIfInBounds_toArray, List.set_cons_zero, List.set_cons_succ]
      refine wpAnyH_take (i := 17) (oi := { dst := some 12, op := Go.Op.assign (Go.Operand.tmp 92), type := 57, pos := "ref.go:81", after := #[{ on := 16, ground := Go.Ground.data }, { on := 9, ground := Go.Ground.chain }, { on := 0, ground := Go.Ground.phase }, { on := 1, ground := Go.Ground.phase }, { on := 2, ground := Go.Ground.phase }, { on := 3, ground := Go.Ground.phase }, { on := 4, ground := Go.Ground.phase }, { on := 5, ground := Go.Ground.phase }, { on := 6, ground := Go.Ground.phase }, { on := 7, ground := Go.Ground.phase }, { on := 8, ground := Go.Ground.phase }, { on := 9, ground := Go.Ground.phase }, { on := 10, ground := Go.Ground.phase }, { on := 11, ground := Go.Ground.phase }, { on := 12, ground := Go.Ground.phase }, { on := 13, ground := Go.Ground.phase }, { on := 14, ground := Go.Ground.phase }, { on := 15, ground := Go.Ground.phase }, { on := 16, ground := Go.Ground.phase }], guard := none }) (v := ?b_4_9v17) rfl (by kernel_rfl) (by kernel_rfl) (by kernel_rfl) (fun _ _ _ h => hPan _ _ _ _ _ h) (Or.inl ⟨by rfl, ?b_4_9y17⟩) (by assumption) ?b_4_9r17
      case b_4_9y17 => (intro w hSw; (try dsimp only at hSw); go_simp; try (with_reducible rfl))
      case b_4_9r17 =>
      try simp only [Act.put, List.setIfInBounds_toArray, List.set_cons_zero, List.set_cons_succ]
      refine wpAnyH_done (by kernel_rfl) ?_ _
      obtain ⟨s1, hs1⟩ : ∃ z, z = small1 y := ⟨_, rfl⟩
      have es1 : bits .xor .u64 (bits .xor .u64 (rot64 45 y) (rot64 3 y)) (y / 64) = s1 := hs1.symm
      rw [es1]
      rw [← hs1] at HSET
      clear hs1 es1
      go_wp2_with fail
      refine wp_region_held_drew (S := (fun w' => w'.cell? ⟨W, i3, none⟩ = some (.int .u64 u) ∧ w'.cell? ⟨W, i4, none⟩ = some (.int .u64 v))) (by kernel_rfl) ?_ (fun hHeld => ?_)
      · exact ⟨k3, k4⟩
      refine wpAnyH_take (i := 0) (oi := { dst := some 93, op := Go.Op.move (Go.Operand.tmp 10), type := 3, pos := "ref.go:82", after := #[], guard := none }) (v := ?cv0) rfl (by kernel_rfl) (by kernel_rfl) (by kernel_rfl) (fun _ _ _ h => hPan _ _ _ _ _ h) (Or.inl ⟨by rfl, ?cy0⟩) (by assumption) ?cr0
      case cy0 => (intro w hSw; (try dsimp only at hSw); go_simp; try (with_reducible rfl))
      case cr0 =>
      try simp only [Act.put, List.setIfInBounds_toArray, List.set_cons_zero, List.set_cons_succ]
      refine wpAnyH_take (i := 1) (oi := { dst := some 94, op := Go.Op.move (Go.Operand.tmp 12), type := 57, pos := "ref.go:82", after := #[], guard := none }) (v := ?cv1) rfl (by kernel_rfl) (by kernel_rfl) (by kernel_rfl) (fun _ _ _ h => hPan _ _ _ _ _ h) (Or.inl ⟨by rfl, ?cy1⟩) (by assumption) ?cr1
      case cy1 => (intro w hSw; (try dsimp only at hSw); go_simp; try (with_reducible rfl))
      case cr1 =>
      try simp only [Act.put, List.setIfInBounds_toArray, List.set_cons_zero, List.set_cons_succ]
      refine wpAnyH_take (i := 2) (oi := { dst := some 95, op := Go.Op.move (Go.Operand.tmp 10), type := 3, pos := "ref.go:82", after := #[], guard := none }) (v := ?cv2) rfl (by kernel_rfl) (by kernel_rfl) (by kernel_rfl) (fun _ _ _ h => hPan _ _ _ _ _ h) (Or.inl ⟨by rfl, ?cy2⟩) (by assumption) ?cr2
      case cy2 => (intro w hSw; (try dsimp only at hSw); go_simp; try (with_reducible rfl))
      case cr2 =>
      try simp only [Act.put, List.setIfInBounds_toArray, List.set_cons_zero, List.set_cons_succ]
      refine wpAnyH_take (i := 3) (oi := { dst := some 96, op := Go.Op.binOp Go.BinOp.sub 3 (Go.Operand.tmp 95) (Go.Operand.const (Go.Value.int Go.IntKind.i64 7)) 3, type := 3, pos := "ref.go:82", after := #[{ on := 2, ground := Go.Ground.data }], guard := none }) (v := ?cv3) rfl (by kernel_rfl) (by kernel_rfl) (by kernel_rfl) (fun _ _ _ h => hPan _ _ _ _ _ h) (Or.inl ⟨by rfl, ?cy3⟩) (by assumption) ?cr3
      case cy3 => (intro w hSw; (try dsimp only at hSw); go_simp; try (with_reducible rfl))
      case cr3 =>
      try simp only [Act.put, List.setIfInBounds_toArray, List.set_cons_zero, List.set_cons_succ]
      refine wpAnyH_take (i := 4) (oi := { dst := some 97, op := Go.Op.indexAddr 103 (Go.Operand.tmp 7) (Go.Operand.tmp 96), type := 0, pos := "ref.go:82", after := #[{ on := 3, ground := Go.Ground.data }], guard := none }) (v := ?cv4) rfl (by kernel_rfl) (by kernel_rfl) (by kernel_rfl) (fun _ _ _ h => hPan _ _ _ _ _ h) (Or.inl ⟨by rfl, ?cy4⟩) (by assumption) ?cr4
      case cy4 => (intro w hSw; (try dsimp only at hSw); go_simp; try (with_reducible rfl))
      case cr4 =>
      try simp only [Act.put, List.setIfInBounds_toArray, List.set_cons_zero, List.set_cons_succ]
      refine wpAnyH_take (i := 5) (oi := { dst := some 98, op := Go.Op.load 57 (Go.Operand.tmp 97), type := 57, pos := "ref.go:82", after := #[{ on := 4, ground := Go.Ground.data }], guard := none }) (v := ?cv5) rfl (by kernel_rfl) (by kernel_rfl) (by kernel_rfl) (fun _ _ _ h => hPan _ _ _ _ _ h) (Or.inl ⟨by rfl, ?cy5⟩) (by assumption) ?cr5
      case cy5 => (intro w hSw; (try dsimp only at hSw); go_simp; try (with_reducible rfl))
      case cr5 =>
      try simp only [Act.put, List.setIfInBounds_toArray, List.set_cons_zero, List.set_cons_succ]
      refine wpAnyH_take (i := 6) (oi := { dst := some 99, op := Go.Op.binOp Go.BinOp.add 57 (Go.Operand.tmp 94) (Go.Operand.tmp 98) 57, type := 57, pos := "ref.go:82", after := #[{ on := 1, ground := Go.Ground.data }, { on := 5, ground := Go.Ground.data }], guard := none }) (v := ?cv6) rfl (by kernel_rfl) (by kernel_rfl) (by kernel_rfl) (fun _ _ _ h => hPan _ _ _ _ _ h) (Or.inl ⟨by rfl, ?cy6⟩) (by assumption) ?cr6
      case cy6 => (intro w hSw; (try dsimp only at hSw); go_simp; try (with_reducible rfl))
      case cr6 =>
      try simp only [Act.put, List.setIfInBounds_toArray, List.set_cons_zero, List.set_cons_succ]
      refine wpAnyH_take (i := 7) (oi := { dst := some 100, op := Go.Op.move (Go.Operand.tmp 11), type := 57, pos := "ref.go:82", after := #[], guard := none }) (v := ?cv7) rfl (by kernel_rfl) (by kernel_rfl) (by kernel_rfl) (fun _ _ _ h => hPan _ _ _ _ _ h) (Or.inl ⟨by rfl, ?cy7⟩) (by assumption) ?cr7
      case cy7 => (intro w hSw; (try dsimp only at hSw); go_simp; try (with_reducible rfl))
      case cr7 =>
      try simp only [Act.put, List.setIfInBounds_toArray, List.set_cons_zero, List.set_cons_succ]
      refine wpAnyH_take (i := 8) (oi := { dst := some 101, op := Go.Op.binOp Go.BinOp.add 57 (Go.Operand.tmp 99) (Go.Operand.tmp 100) 57, type := 57, pos := "ref.go:82", after := #[{ on := 6, ground := Go.Ground.data }, { on := 7, ground := Go.Ground.data }], guard := none }) (v := ?cv8) rfl (by kernel_rfl) (by kernel_rfl) (by kernel_rfl) (fun _ _ _ h => hPan _ _ _ _ _ h) (Or.inl ⟨by rfl, ?cy8⟩) (by assumption) ?cr8
      case cy8 => (intro w hSw; (try dsimp only at hSw); go_simp; try (with_reducible rfl))
      case cr8 =>
      try simp only [Act.put, List.setIfInBounds_toArray, List.set_cons_zero, List.set_cons_succ]
      refine wpAnyH_take (i := 9) (oi := { dst := some 102, op := Go.Op.move (Go.Operand.tmp 10), type := 3, pos := "ref.go:82", after := #[], guard := none }) (v := ?cv9) rfl (by kernel_rfl) (by kernel_rfl) (by kernel_rfl) (fun _ _ _ h => hPan _ _ _ _ _ h) (Or.inl ⟨by rfl, ?cy9⟩) (by assumption) ?cr9
      case cy9 => (intro w hSw; (try dsimp only at hSw); go_simp; try (with_reducible rfl))
      case cr9 =>
      try simp only [Act.put, List.setIfInBounds_toArray, List.set_cons_zero, List.set_cons_succ]
      refine wpAnyH_take (i := 10) (oi := { dst := some 103, op := Go.Op.binOp Go.BinOp.sub 3 (Go.Operand.tmp 102) (Go.Operand.const (Go.Value.int Go.IntKind.i64 16)) 3, type := 3, pos := "ref.go:82", after := #[{ on := 9, ground := Go.Ground.data }], guard := none }) (v := ?cv10) rfl (by kernel_rfl) (by kernel_rfl) (by kernel_rfl) (fun _ _ _ h => hPan _ _ _ _ _ h) (Or.inl ⟨by rfl, ?cy10⟩) (by assumption) ?cr10
      case cy10 => (intro w hSw; (try dsimp only at hSw); go_simp; try (with_reducible rfl))
      case cr10 =>
      try simp only [Act.put, List.setIfInBounds_toArray, List.set_cons_zero, List.set_cons_succ]
      refine wpAnyH_take (i := 11) (oi := { dst := some 104, op := Go.Op.indexAddr 103 (Go.Operand.tmp 7) (Go.Operand.tmp 103), type := 0, pos := "ref.go:82", after := #[{ on := 10, ground := Go.Ground.data }], guard := none }) (v := ?cv11) rfl (by kernel_rfl) (by kernel_rfl) (by kernel_rfl) (fun _ _ _ h => hPan _ _ _ _ _ h) (Or.inl ⟨by rfl, ?cy11⟩) (by assumption) ?cr11
      case cy11 => (intro w hSw; (try dsimp only at hSw); go_simp; try (with_reducible rfl))
      case cr11 =>
      try simp only [Act.put, List.setIfInBounds_toArray, List.set_cons_zero, List.set_cons_succ]
      refine wpAnyH_take (i := 12) (oi := { dst := some 105, op := Go.Op.load 57 (Go.Operand.tmp 104), type := 57, pos := "ref.go:82", after := #[{ on := 11, ground := Go.Ground.data }], guard := none }) (v := ?cv12) rfl (by kernel_rfl) (by kernel_rfl) (by kernel_rfl) (fun _ _ _ h => hPan _ _ _ _ _ h) (Or.inl ⟨by rfl, ?cy12⟩) (by assumption) ?cr12
      case cy12 => (intro w hSw; (try dsimp only at hSw); go_simp; try (with_reducible rfl))
      case cr12 =>
      try simp only [Act.put, List.setIfInBounds_toArray, List.set_cons_zero, List.set_cons_succ]
      refine wpAnyH_take (i := 13) (oi := { dst := some 106, op := Go.Op.binOp Go.BinOp.add 57 (Go.Operand.tmp 101) (Go.Operand.tmp 105) 57, type := 57, pos := "ref.go:82", after := #[{ on := 8, ground := Go.Ground.data }, { on := 12, ground := Go.Ground.data }], guard := none }) (v := ?cv13) rfl (by kernel_rfl) (by kernel_rfl) (by kernel_rfl) (fun _ _ _ h => hPan _ _ _ _ _ h) (Or.inl ⟨by rfl, ?cy13⟩) (by assumption) ?cr13
      case cy13 => (intro w hSw; (try dsimp only at hSw); go_simp; try (with_reducible rfl))
      case cr13 =>
      try simp only [Act.put, List.setIfInBounds_toArray, List.set_cons_zero, List.set_cons_succ]
      refine wpAnyH_take (i := 14) (oi := { dst := some 107, op := Go.Op.indexAddr 103 (Go.Operand.tmp 7) (Go.Operand.tmp 93), type := 0, pos := "ref.go:82", after := #[{ on := 0, ground := Go.Ground.data }, { on := 0, ground := Go.Ground.phase }, { on := 1, ground := Go.Ground.phase }, { on := 2, ground := Go.Ground.phase }, { on := 3, ground := Go.Ground.phase }, { on := 4, ground := Go.Ground.phase }, { on := 5, ground := Go.Ground.phase }, { on := 6, ground := Go.Ground.phase }, { on := 7, ground := Go.Ground.phase }, { on := 8, ground := Go.Ground.phase }, { on := 9, ground := Go.Ground.phase }, { on := 10, ground := Go.Ground.phase }, { on := 11, ground := Go.Ground.phase }, { on := 12, ground := Go.Ground.phase }, { on := 13, ground := Go.Ground.phase }], guard := none }) (v := ?cv14) rfl (by kernel_rfl) (by kernel_rfl) (by kernel_rfl) (fun _ _ _ h => hPan _ _ _ _ _ h) (Or.inl ⟨by rfl, ?cy14⟩) (by assumption) ?cr14
      case cy14 => (intro w hSw; (try dsimp only at hSw); go_simp; try (with_reducible rfl))
      case cr14 =>
      try simp only [Act.put, List.setIfInBounds_toArray, List.set_cons_zero, List.set_cons_succ]
      refine wpAnyH_ready (rs := [15]) (by kernel_rfl) (by simp) ?_
      refine AllReadyH.cons (o := { dst := none, op := Go.Op.store 57 (Go.Operand.tmp 107) (Go.Operand.tmp 106), type := 0, pos := "ref.go:82", after := #[{ on := 14, ground := Go.Ground.data }, { on := 13, ground := Go.Ground.data }, { on := 0, ground := Go.Ground.phase }, { on := 1, ground := Go.Ground.phase }, { on := 2, ground := Go.Ground.phase }, { on := 3, ground := Go.Ground.phase }, { on := 4, ground := Go.Ground.phase }, { on := 5, ground := Go.Ground.phase }, { on := 6, ground := Go.Ground.phase }, { on := 7, ground := Go.Ground.phase }, { on := 8, ground := Go.Ground.phase }, { on := 9, ground := Go.Ground.phase }, { on := 10, ground := Go.Ground.phase }, { on := 11, ground := Go.Ground.phase }, { on := 12, ground := Go.Ground.phase }, { on := 13, ground := Go.Ground.phase }], guard := none }) rfl (fun K hK => ?_) (AllReadyH.nil)
      go_simp
      refine hK.out _ _ ?_ (fun hHeld => ?_)
      · exact ⟨(World.cell?_setCell_other _ _ _ _ (by intro h; injection h with _ h; omega)).trans k3, (World.cell?_setCell_other _ _ _ _ (by intro h; injection h with _ h; omega)).trans k4⟩
      clear hK K
      try simp only [Act.put]
      refine wpAnyH_done (by kernel_rfl) ?_ _
      go_wp2_with fail
      have HB2 := (HBEL.out.setCell (p := ⟨W, t, none⟩) (Nat.le_refl _) (.int .u64 (IntKind.u64.wrap (IntKind.u64.wrap (IntKind.u64.wrap (s1 + u) + s0) + v))))
      exact ⟨⟨n + 1, t + 1, by have := ht2.out; omega, Lib.hid (by have := ht2.out; omega), by omega, by omega, by go_num, HSET.out, ⟨HB2.os, HB2.tape, HB2.output, HB2.size, HB2.block⟩⟩, by simp [intOf]; omega⟩
    · obtain rfl : t = 80 := by omega
      have hn48 : n = 64 := by have := ht2.out; omega
      have hW : ws = W80 bs := by rw [hws, hn48]; unfold W80; with_reducible rfl
      rw [padZ_full hwl, hW] at hrow
      have hrow2 : IRow wr W 103 .u64 (W80 bs) := by with_reducible exact hrow
      have HR := Lib.hid hrow2
      have HBEL := Lib.hid hbel
      have e64 : ((80 : Nat) : Int) = 80 := rfl
      rw [e64]
      clear hrow hrow2 hbel hW hws hwl hn48 ht2 e64 h64
      go_wp2_with fail
      exact HQ.out _ _ _ _ _ _ _ _ _ _ _ _ _ _ _ _ _ _ _ _ _ _ _ _ _ _ _ _ _ _ _ _ _ _ _ _ _ _ _ _ _ _ _ _ _ _ _ _ _ _ _ _ _ _ _ _ _ HR.out HBEL.out
end Go.Proofs.YtfkpdbmgiefnfaaDoor.S5
