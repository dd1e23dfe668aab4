/-
  Texts joined: TvU. Conditions: those of each.
-/
import Derived.Test.YthelmclpmalofaaDoorK13
/-
  The closure of sighash.Witness. Conditions: sizes within the reach.
-/
namespace Go.Proofs.YthelmclpmalofaaDoor
open Go.RowKit

/-- What is signed the newer way. -/
def witM (t : TxP) (p : InP) (sc : List UInt8) (val k : Int) (P S O : List UInt8) : List UInt8 :=
  headB t ++ P ++ S ++ prevB p ++ (sizeB sc.length ++ sc) ++ low (val % 18446744073709551616) 8 ++ seqB p ++ O ++ low t.lock 4 ++ low k 4
/-- The boxes that the closure reads. -/
structure WitAt (w : World) (B : Nat) (GT GP GS GI GC GV GO GK : Nat) (TC : List Value) (P S O : List UInt8) (C : List Value) (sv : Value) (val k : Int) : Prop where
  t : VRow w GT 26 TC
  p : IRow w GP 36 .u8 (nums P)
  s : IRow w GS 36 .u8 (nums S)
  i : VRow w GI 49 C
  c : VRow w GC 27 [sv]
  v : VRow w GV 2 [.int .i64 val]
  o : IRow w GO 36 .u8 (nums O)
  k : VRow w GK 5 [.int .u8 k]
  tB : GT < B
  pB : GP < B
  sB : GS < B
  iB : GI < B
  cB : GC < B
  vB : GV < B
  oB : GO < B
  kB : GK < B
theorem WitAt.below {w w' : World} {B GT GP GS GI GC GV GO GK : Nat} {TC : List Value} {P S O : List UInt8} {C : List Value} {sv : Value} {val k : Int} (h : WitAt w B GT GP GS GI GC GV GO GK TC P S O C sv val k) (hb : Below B w w') : WitAt w' B GT GP GS GI GC GV GO GK TC P S O C sv val k :=
  ⟨h.t.below hb h.tB, IRow.below h.p hb h.pB, IRow.below h.s hb h.sB, h.i.below hb h.iB, h.c.below hb h.cB, h.v.below hb h.vB, IRow.below h.o hb h.oB, h.k.below hb h.kB, h.tB, h.pB, h.sB, h.iB, h.cB, h.vB, h.oB, h.kB⟩
theorem hash_by {w : World} {G : Nat} {P : List UInt8} (h : IRow w G 36 .u8 (nums P)) (hl : P.length = 32) : Byt w (G + 1) (.slice (some ⟨G, 0, none⟩) 32 32) P := by
  have q := h.bytes (by rw [hl]; unfold maxLen; omega)
  rw [hl] at q
  exact q

set_option maxRecDepth 100000 in
set_option maxHeartbeats 6400000 in
theorem witClo_any {w0 : World} {B g : Nat} (GT GP GS GI GC GV GO GK : Nat) (t : TxP) (iv ov sv : Value) (x : InV) (P S O sc : List UInt8) (val k : Int) (w : World) (h : WrT w0 w B g [])
    (hA : WitAt w0 B GT GP GS GI GC GV GO GK (txC t iv ov) P S O (inC x) sv val k) (ht : t.ok) (hx : x.p.ok) (hs : Byt w0 B sv sc) (hsl : sc.length ≤ 1000) (hP : P.length = 32) (hS : S.length = 32) (hO : O.length = 32)
    (_hv0 : -9223372036854775808 ≤ val) (_hv1 : val ≤ 9223372036854775807) (h0 : 0 ≤ k) (h1 : k < 256) :
    Calls Tryd.prog 42 #[.pointer (some ⟨g, 0, none⟩), .pointer (some ⟨GT, 0, none⟩), .pointer (some ⟨GP, 0, none⟩), .pointer (some ⟨GS, 0, none⟩), .pointer (some ⟨GI, 0, none⟩), .pointer (some ⟨GC, 0, none⟩), .pointer (some ⟨GV, 0, none⟩), .pointer (some ⟨GO, 0, none⟩), .pointer (some ⟨GK, 0, none⟩)] w
      (WrD w0 B g w (witM t x.p sc val k P S O)) := by
  have v0 := ht.v0
  have v1 := ht.v1
  have l0 := ht.l0
  have l1 := ht.l1
  have hcl := inC_length hx
  have hpr := fun xs W hW (hl : xs.length ≤ 44000) => writePrev_t (w0 := w0) (B := B) (g := g) x xs W hW hx hl
  have hsq := fun xs W hW (hl : xs.length ≤ 44000) => writeSeq_t (w0 := w0) (B := B) (g := g) x xs W hW hx hl
  have hpl : (prevB x.p).length = 36 := by unfold prevB; rw [List.length_append, low_length, hx.hl]
  have hql : (seqB x.p).length = 4 := by unfold seqB; rw [low_length]
  have hhl : (headB t).length = 4 := by unfold headB; rw [low_length]
  have hszl := sizeB_le sc.length
  obtain ⟨C, hC⟩ : ∃ C, C = inC x := ⟨_, rfl⟩
  have hCS : (Tryd.prog.info? 49).map (·.size) = some C.length := by rw [hC, hcl]; exact size_tin
  rw [← hC] at hA
  simp only [← hC] at hpr hsq
  obtain ⟨TC, hTC⟩ : ∃ z, z = txC t iv ov := ⟨_, rfl⟩
  have t0 : TC[0]? = some (.int .i32 t.ver) := by rw [hTC]; rfl
  have t3 : TC[3]? = some (.int .u32 t.lock) := by rw [hTC]; rfl
  rw [← hTC] at hA
  obtain ⟨As, cs, hsf⟩ := hs.form
  rw [hsf] at hs hA
  obtain ⟨M, hM⟩ : ∃ M, M = witM t x.p sc val k P S O := ⟨_, rfl⟩
  have hM2 : M = ((((((((([] ++ headB t) ++ P) ++ S) ++ prevB x.p) ++ (sizeB sc.length ++ sc)) ++ low (val % 18446744073709551616) 8) ++ seqB x.p) ++ O) ++ low t.lock 4) ++ low k 4 := by rw [hM]; unfold witM; rw [List.nil_append]
  rw [← hM]
  obtain ⟨HD, hHD⟩ : ∃ z, z = headB t := ⟨_, rfl⟩
  have hHD2 : HD = low (t.ver % 4294967296) 4 := by rw [hHD]; rfl
  obtain ⟨PB, hPB⟩ : ∃ z, z = prevB x.p := ⟨_, rfl⟩
  obtain ⟨SB, hSB⟩ : ∃ z, z = seqB x.p := ⟨_, rfl⟩
  obtain ⟨ver, hver⟩ : ∃ n, n = t.ver := ⟨_, rfl⟩
  obtain ⟨lk, hlk⟩ : ∃ n, n = t.lock := ⟨_, rfl⟩
  obtain ⟨nS, hnS⟩ : ∃ n, n = sc.length := ⟨_, rfl⟩
  rw [← hHD] at hM2 hhl
  rw [← hPB] at hM2 hpl
  rw [← hSB] at hM2 hql
  simp only [← hPB] at hpr
  simp only [← hSB] at hsq
  rw [← hver] at v0 v1 t0 hHD2
  rw [← hlk] at l0 l1 t3 hM2
  rw [← hnS] at hA hs
  have HA := Lib.hid hA
  have HW := Lib.hid h
  have HPR := Lib.hid hpr
  have HSQ := Lib.hid hsq
  have HPL := Lib.hid hpl
  have HQL := Lib.hid hql
  have HHL := Lib.hid hhl
  have HZL := Lib.hid hszl
  have HCS := Lib.hid hCS
  have T0 := Lib.hid t0
  have T3 := Lib.hid t3
  have HS2 := Lib.hid hs
  have HSL := Lib.hid hsl
  have HP := Lib.hid hP
  have HS := Lib.hid hS
  have HO := Lib.hid hO
  have HM2 := Lib.hid hM2
  have HHD2 := Lib.hid hHD2
  have HNS := Lib.hid hnS
  clear hA h hpr hsq hpl hql hhl hszl hCS t0 t3 hs hsl hP hS hO hM hM2 hHD hHD2 hPB hSB hver hlk hnS hC hcl hTC hsf ht hx
  have KR := Lib.hid (KeepT.refl g w)
  go_enter Tryd.func42, Tryd.ntmps42
  have W1 := HW
  have K1 := KR
  have A1 := Lib.hid (HA.out.below W1.out.bel)
  have q := A1.out.t.cell T0.out
  go_wp2_with fail
  refine (u32_t (ver % 4294967296) [] w W1.out (by omega) (by omega) (by simp)).mono ?_
  rintro e w2 ⟨rfl, h2, k2⟩
  rw [← HHD2.out] at h2
  have W2 := Lib.hid h2
  have K2 := Lib.hid (K1.out.trans k2)
  clear h2 k2 q
  have A2 := Lib.hid (HA.out.below W2.out.bel)
  go_wp2_with fail
  refine (raw_t _ P ([] ++ HD) w2 W2.out (hash_by A2.out.p HP.out) (by have := HPL.out; have := HQL.out; have := HHL.out; have := HZL.out; have := HSL.out; have := HP.out; have := HS.out; have := HO.out; simp only [List.length_append, List.length_nil]; omega)).mono ?_
  rintro e w3 ⟨rfl, h3, k3⟩
  have W3 := Lib.hid h3
  have K3 := Lib.hid (K2.out.trans k3)
  clear h3 k3
  have A3 := Lib.hid (HA.out.below W3.out.bel)
  go_wp2_with fail
  refine (raw_t _ S (([] ++ HD) ++ P) w3 W3.out (hash_by A3.out.s HS.out) (by have := HPL.out; have := HQL.out; have := HHL.out; have := HZL.out; have := HSL.out; have := HP.out; have := HS.out; have := HO.out; simp only [List.length_append, List.length_nil]; omega)).mono ?_
  rintro e w4 ⟨rfl, h4, k4⟩
  have W4 := Lib.hid h4
  have K4 := Lib.hid (K3.out.trans k4)
  clear h4 k4
  have A4 := Lib.hid (HA.out.below W4.out.bel)
  go_wp2_with (first
    | (refine wpList_load_vrow rfl 49 (.tmp 4) rfl rfl A4.out.i Tryd.underlying49 HCS.out ?_))
  refine (HPR.out ((([] ++ HD) ++ P) ++ S) w4 W4.out (by have := HPL.out; have := HQL.out; have := HHL.out; have := HZL.out; have := HSL.out; have := HP.out; have := HS.out; have := HO.out; simp only [List.length_append, List.length_nil]; omega)).mono ?_
  rintro e w5 ⟨rfl, h5, k5⟩
  have W5 := Lib.hid h5
  have K5 := Lib.hid (K4.out.trans k5)
  clear h5 k5
  have A5 := Lib.hid (HA.out.below W5.out.bel)
  have q := A5.out.c.cell (show [Value.slice As nS cs][0]? = some (.slice As nS cs) from rfl)
  go_wp2_with fail
  refine (bytes_t _ sc (((([] ++ HD) ++ P) ++ S) ++ PB) w5 W5.out HS2.out (by have := HPL.out; have := HQL.out; have := HHL.out; have := HZL.out; have := HSL.out; have := HP.out; have := HS.out; have := HO.out; simp only [List.length_append, List.length_nil]; omega) HSL.out).mono ?_
  rintro e w6 ⟨rfl, h6, k6⟩
  have W6 := Lib.hid h6
  have K6 := Lib.hid (K5.out.trans k6)
  clear h6 k6 q
  have A6 := Lib.hid (HA.out.below W6.out.bel)
  have q := A6.out.v.cell (show [Value.int .i64 val][0]? = some (.int .i64 val) from rfl)
  go_wp2_with fail
  refine (u64_t (val % 18446744073709551616) ((((([] ++ HD) ++ P) ++ S) ++ PB) ++ (sizeB sc.length ++ sc)) w6 W6.out (by omega) (by omega) (by have := HPL.out; have := HQL.out; have := HHL.out; have := HZL.out; have := HSL.out; have := HP.out; have := HS.out; have := HO.out; simp only [List.length_append, List.length_nil]; omega)).mono ?_
  rintro e w7 ⟨rfl, h7, k7⟩
  have W7 := Lib.hid h7
  have K7 := Lib.hid (K6.out.trans k7)
  clear h7 k7 q
  have A7 := Lib.hid (HA.out.below W7.out.bel)
  go_wp2_with (first
    | (refine wpList_load_vrow rfl 49 (.tmp 4) rfl rfl A7.out.i Tryd.underlying49 HCS.out ?_))
  refine (HSQ.out (((((([] ++ HD) ++ P) ++ S) ++ PB) ++ (sizeB sc.length ++ sc)) ++ low (val % 18446744073709551616) 8) w7 W7.out (by have := HPL.out; have := HQL.out; have := HHL.out; have := HZL.out; have := HSL.out; have := HP.out; have := HS.out; have := HO.out; simp only [List.length_append, low_length, List.length_nil]; omega)).mono ?_
  rintro e w8 ⟨rfl, h8, k8⟩
  have W8 := Lib.hid h8
  have K8 := Lib.hid (K7.out.trans k8)
  clear h8 k8
  have A8 := Lib.hid (HA.out.below W8.out.bel)
  go_wp2_with fail
  refine (raw_t _ O ((((((([] ++ HD) ++ P) ++ S) ++ PB) ++ (sizeB sc.length ++ sc)) ++ low (val % 18446744073709551616) 8) ++ SB) w8 W8.out (hash_by A8.out.o HO.out) (by have := HPL.out; have := HQL.out; have := HHL.out; have := HZL.out; have := HSL.out; have := HP.out; have := HS.out; have := HO.out; simp only [List.length_append, low_length, List.length_nil]; omega)).mono ?_
  rintro e w9 ⟨rfl, h9, k9⟩
  have W9 := Lib.hid h9
  have K9 := Lib.hid (K8.out.trans k9)
  clear h9 k9
  have A9 := Lib.hid (HA.out.below W9.out.bel)
  have q := A9.out.t.cell T3.out
  go_wp2_with fail
  refine (u32_t lk (((((((([] ++ HD) ++ P) ++ S) ++ PB) ++ (sizeB sc.length ++ sc)) ++ low (val % 18446744073709551616) 8) ++ SB) ++ O) w9 W9.out l0 l1 (by have := HPL.out; have := HQL.out; have := HHL.out; have := HZL.out; have := HSL.out; have := HP.out; have := HS.out; have := HO.out; simp only [List.length_append, low_length, List.length_nil]; omega)).mono ?_
  rintro e w10 ⟨rfl, h10, k10⟩
  have W10 := Lib.hid h10
  have K10 := Lib.hid (K9.out.trans k10)
  clear h10 k10 q
  have A10 := Lib.hid (HA.out.below W10.out.bel)
  have q := A10.out.k.cell (show [Value.int .u8 k][0]? = some (.int .u8 k) from rfl)
  go_wp2_with fail
  refine (u32_t k ((((((((([] ++ HD) ++ P) ++ S) ++ PB) ++ (sizeB sc.length ++ sc)) ++ low (val % 18446744073709551616) 8) ++ SB) ++ O) ++ low lk 4) w10 W10.out h0 (by omega) (by have := HPL.out; have := HQL.out; have := HHL.out; have := HZL.out; have := HSL.out; have := HP.out; have := HS.out; have := HO.out; simp only [List.length_append, low_length, List.length_nil]; omega)).mono ?_
  rintro e w11 ⟨rfl, h11, k11⟩
  have W11 := Lib.hid h11
  have K11 := Lib.hid (K10.out.trans k11)
  clear h11 k11 q
  go_wp2
  go_end0
  refine ⟨rfl, ?_, K11.out⟩
  rw [HM2.out]
  exact W11.out
end Go.Proofs.YthelmclpmalofaaDoor
