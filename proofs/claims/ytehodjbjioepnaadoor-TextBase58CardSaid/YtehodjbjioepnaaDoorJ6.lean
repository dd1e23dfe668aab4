/-
  Texts joined: Double, Fill, RSumP, RB2, RefRot, RB6, RB8. Conditions: those of each.
-/
import Derived.Test.YtehodjbjioepnaaDoorJ5
import Derived.Deep.CutBlock
import Derived.Test.YtehodjbjioepnaaDoorJ4
/-
  hash.Double and Sum.Twice, walked. Conditions: the size stays below 2^59; the roots are laid.
-/
namespace Go.Proofs.YtehodjbjioepnaaDoor
open Go.RowKit

theorem IRow.bytes {w : World} {g : Nat} {t : TypeId} {bs : List UInt8} (h : IRow w g t .u8 (nums bs)) (hl : bs.length ≤ maxLen) : Byt w (g + 1) (.slice (some ⟨g, 0, none⟩) bs.length bs.length) bs :=
  ⟨_, _, rfl, Nat.le_refl _, hl, (by intro h; cases h), fun _ => ⟨g, 0, rfl, Nat.lt_succ_self _, fun j u hu => by
    rw [Nat.zero_add]
    exact h.cell (by unfold nums; rw [List.getElem?_map, hu]; rfl)⟩⟩

set_option maxRecDepth 100000 in
set_option maxHeartbeats 3200000 in
theorem double_any (B : Nat) (v : Value) (b : List UInt8) (W0 : World) (hb : Byt W0 B v b) (hB : B ≤ W0.heap.size) (hlen : b.length < 576460752303423488) (hroots : Roots W0) :
    Calls Tryd.prog 33 #[v] W0 fun e w' => e = .returned (digV (sha256 (sha256 b))) ∧ Below W0.heap.size W0 w' := by
  obtain ⟨A, c, rfl⟩ := hb.form
  have HB := Lib.hid hb
  clear hb
  have rA := IRow.new W0 58 .u8 (List.replicate 32 0)
  have bA : Below W0.heap.size W0 (W0.alloc (.cells ((List.replicate 32 (0 : Int)).map (Value.int .u8)).toArray 58)) := (Below.refl _ W0).alloc (Nat.le_refl _) _
  have HR := Lib.hid hroots
  clear hroots
  go_enter Tryd.func33, Tryd.ntmps33
  go_upto_region 1 with fail
  change Code.wp _ _ _ _ (W0.alloc (.cells ((List.replicate 32 (0 : Int)).map (Value.int .u8)).toArray 58))
  obtain ⟨wA, hwA⟩ : ∃ x, x = W0.alloc (.cells ((List.replicate 32 (0 : Int)).map (Value.int .u8)).toArray 58) := ⟨_, rfl⟩
  rw [← hwA] at rA bA ⊢
  obtain ⟨B0, hB0⟩ : ∃ B0, B0 = W0.heap.size := ⟨_, rfl⟩
  rw [← hB0] at rA bA ⊢
  have C1 := Lib.hid (sum256_any B _ b wA (HB.out.below (bA.mono (by omega))) (by have := bA.size; omega) hlen (HR.out.below (by rw [← hB0]; exact bA)))
  have RA := Lib.hid rA
  have BA := Lib.hid bA
  have HB0 := Lib.hid hB0
  have RO := Lib.hid (HR.out.below (show Below W0.heap.size W0 wA by rw [← hB0]; exact bA))
  clear hwA rA bA hB0
  go_wp2_with fail
  refine C1.out.mono ?_
  rintro e w2 ⟨rfl, hb2⟩
  have hsz : (nums (sha256 b)).length = 32 := by rw [nums_length, sha256_length]
  have HI := Lib.hid (show (Tryd.prog.info? 58).map (·.size) = some (nums (sha256 b)).length by rw [hsz]; exact info_h)
  have HL := Lib.hid (show (List.replicate 32 (0 : Int)).length = (nums (sha256 b)).length by rw [hsz]; rfl)
  have rA2 := RA.out.below hb2 RA.out.lt
  have bA2 := BA.out.trans (hb2.mono (by have := BA.out.size; have := HB0.out; omega))
  have rO := RO.out.below hb2
  have rC := IRow.new w2 58 .u8 (List.replicate 32 0)
  have rC2 := setRow_irow (ys := nums (sha256 b)) rC
  have bC : Below w2.heap.size w2 ((w2.alloc (.cells ((List.replicate 32 (0 : Int)).map (Value.int .u8)).toArray 58)).setRow w2.heap.size ((nums (sha256 b)).map (Value.int .u8)).toArray) := below_setRow ((Below.refl _ w2).alloc (Nat.le_refl _) _) (Nat.le_refl _) _
  have RA2 := Lib.hid rA2
  have BA2 := Lib.hid bA2
  have RO2 := Lib.hid rO
  have RC := Lib.hid rC
  have RC2 := Lib.hid rC2
  have BC := Lib.hid bC
  clear hb2 rA2 bA2 rO rC rC2 bC hsz
  unfold digV
  go_upto_region 2 with (refine wpList_store_irow rfl 58 (.tmp 3) (.tmp 5) rfl (g := w2.heap.size) (t := 58) (k := .u8) (xs := List.replicate 32 0) (ys := nums (sha256 b)) rfl rfl RC.out HI.out HL.out ?_)
  change Code.wp _ _ _ _ ((w2.alloc (.cells ((List.replicate 32 (0 : Int)).map (Value.int .u8)).toArray 58)).setRow w2.heap.size ((nums (sha256 b)).map (Value.int .u8)).toArray)
  obtain ⟨w3, hw3⟩ : ∃ x, x = (w2.alloc (.cells ((List.replicate 32 (0 : Int)).map (Value.int .u8)).toArray 58)).setRow w2.heap.size ((nums (sha256 b)).map (Value.int .u8)).toArray := ⟨_, rfl⟩
  rw [← hw3]
  have rC3 : IRow w3 w2.heap.size 58 .u8 (nums (sha256 b)) := by rw [hw3]; exact RC2.out
  have bC3 : Below w2.heap.size w2 w3 := by rw [hw3]; exact BC.out
  have rA3 := RA2.out.below bC3 RA2.out.lt
  have bA3 := BA2.out.trans (bC3.mono (by have := BA2.out.size; have := HB0.out; omega))
  have ro3 := RO2.out.below bC3
  have hby := rC3.bytes (by rw [sha256_length]; unfold maxLen; omega)
  rw [sha256_length] at hby
  have C2 := Lib.hid (sum256_any _ _ _ w3 hby (by have := rC3.lt; omega) (by rw [sha256_length]; omega) ro3)
  have RA3 := Lib.hid rA3
  have BA3 := Lib.hid bA3
  clear hw3 rC3 bC3 rA3 bA3 ro3 hby RA2 BA2 RO2 RC RC2 BC HI HL
  dsimp only [Act.put]
  go_wp2_with fail
  refine C2.out.mono ?_
  rintro e w4 ⟨rfl, hb4⟩
  have hsz : (nums (sha256 (sha256 b))).length = 32 := by rw [nums_length, sha256_length]
  have HI := Lib.hid (show (Tryd.prog.info? 58).map (·.size) = some (nums (sha256 (sha256 b))).length by rw [hsz]; exact info_h)
  have HL := Lib.hid (show (List.replicate 32 (0 : Int)).length = (nums (sha256 (sha256 b))).length by rw [hsz]; rfl)
  have ra4 := RA3.out.below hb4 RA3.out.lt
  have b4 := BA3.out.trans (hb4.mono (by have := BA3.out.size; have := HB0.out; omega))
  have HFIN := Lib.hid (setRow_irow (ys := nums (sha256 (sha256 b))) ra4)
  have HBF := Lib.hid (below_setRow b4 (Nat.le_refl _) ((nums (sha256 (sha256 b))).map (Value.int .u8)).toArray)
  have RA4 := Lib.hid ra4
  clear ra4 b4 hb4 hsz
  unfold digV
  go_wp2_with (refine wpList_store_irow rfl 58 (.tmp 2) (.tmp 7) rfl (g := B0) (t := 58) (k := .u8) (xs := List.replicate 32 0) (ys := nums (sha256 (sha256 b))) rfl rfl RA4.out HI.out HL.out ?_)
  refine bodyPost_ret (v := digV (sha256 (sha256 b))) ?_ rfl ⟨rfl, by rw [← HB0.out]; exact HBF.out⟩
  obtain ⟨fr, hrw⟩ : ∃ fr, ((w4.setRow B0 ((nums (sha256 (sha256 b))).map (Value.int .u8)).toArray)).heap[B0]? = some (.cells ((nums (sha256 (sha256 b))).map (Value.int .u8)).toArray 58 fr) := ⟨_, HFIN.out⟩
  exact results_cell_row Tryd.results33 _ _ B0 58 ((nums (sha256 (sha256 b))).map (Value.int .u8)).toArray fr _ rfl hrw Tryd.underlying58 rfl (by rw [List.size_toArray, List.length_map]; exact HI.out)

end Go.Proofs.YtehodjbjioepnaaDoor

/-
  The reference's fill: what closes a message. Conditions: sizes within the reach.
-/
namespace Go.Proofs.YtehodjbjioepnaaDoor
open Go.RowKit

theorem low_split (m : Int) (k : Nat) (hk : 0 < k) : low m k = b8 m :: low (m / 256) (k - 1) := by
  obtain ⟨k, rfl⟩ : ∃ j, k = j + 1 := ⟨k - 1, by omega⟩
  rfl
theorem low_step {n m : Int} {k : Nat} {zs : List UInt8} (hlt : zs.length < k) (h : low n k = zs ++ low m (k - zs.length)) : low n k = (zs ++ [b8 m]) ++ low (m / 256) (k - (zs ++ [b8 m]).length) := by
  rw [h, low_split m _ (by omega), List.length_append]
  simp
  congr 1
/-- How many zeros. -/
def zeroG (n sz ln : Nat) : Nat := (2 * sz - ln - (n + 1) % sz) % sz
def fillG (m : List UInt8) (sz ln : Nat) (lowest : Bool) : List UInt8 := m ++ [128] ++ List.replicate (zeroG m.length sz ln) 0 ++ if lowest then low ((8 * m.length : Nat) : Int) ln else (low ((8 * m.length : Nat) : Int) ln).reverse

set_option maxRecDepth 100000 in
set_option maxHeartbeats 3200000 in
theorem fill256_any (B : Nat) (x : Value) (m : List UInt8) (w : World) (hx : Byt w B x m) (hB : B ≤ w.heap.size) (hl : m.length < 281474976710656) (hl2 : m.length + 400 ≤ 140737488355328) :
    Calls Tryd.prog 38 #[x, .int .i64 64, .int .i64 8, .bool false] w fun e w' => ∃ v, e = .returned v ∧ OwnB w' w.heap.size v (fillG m 64 8 false) ∧ Below w.heap.size w w' := by
  obtain ⟨i0, hi, hz0, hz1, hz2⟩ := info_parts info_u8
  obtain ⟨A, c, rfl⟩ := hx.form
  have hr1 : Byt (w.alloc (.cells #[] 5)) B (.slice A m.length c) m := hx.below ((Below.refl _ w).alloc hB _)
  have hown : (w.alloc (.cells #[] 5)).ownsRow w.heap.size 5 1 (.slice (some ⟨w.heap.size, 0, none⟩) 0 0) 0 [] :=
    World.ownsRow_made w #[] 0 (Nat.le_refl _) (by unfold maxLen; omega) rfl
  obtain ⟨Z, hZ⟩ : ∃ Z, Z = zeroG m.length 64 8 := ⟨_, rfl⟩
  have hz64 : Z < 64 := by rw [hZ]; unfold zeroG; omega
  have hzz : (m.length + 1 + Z) % 64 = 56 := by rw [hZ]; unfold zeroG; omega
  have hzn : ∀ k, k < Z → (m.length + 1 + k) % 64 ≠ 56 := fun k hk => by rw [hZ] at hk; unfold zeroG at hk; omega
  have HZ := Lib.hid hZ
  have HZZ := Lib.hid hzz
  have HZN := Lib.hid hzn
  have HX := Lib.hid hx
  clear hZ hzz hzn hx
  go_enter Tryd.func38, Tryd.ntmps38
  go_upto_region 2 with (at_builtin; refine wpList_append_bytes rfl (.tmp 14) (.tmp 15) 22 rfl w.heap.size 5 i0 slice_u8 hi hz0 hz1 hz2 _ 0 [] rfl hown B _ m rfl hr1 (by omega) (by simp) ?_; intro v1 w1 hown1 hg1 hat1; obtain ⟨A1, c1, rfl⟩ := own_form hown1)
  rw [Nat.zero_add] at *
  have hb1 : Below w.heap.size w w1 := ((Below.refl _ w).alloc (Nat.le_refl _) _).grown hg1 (by simp) (fun k hk => by cases hk; exact Nat.le_refl _)
  have how1 : w1.ownsRow w.heap.size 5 1 (.slice A1 m.length c1) m.length (m.map bv) := by simpa using hown1
  have H1 := Lib.hid how1
  have HB1 := Lib.hid hb1
  clear hown1 hg1 hat1 hb1 hown hr1 how1
  have hmade : Byt (w1.alloc (.cells #[.int .u8 128] 5)) (w1.heap.size + 1) (.slice (some ⟨w1.heap.size, 0, none⟩) 1 1) [128] := Byt.made w1 _ [_] [128] rfl (by unfold maxLen; simp)
  have HM := Lib.hid hmade
  clear hmade
  go_upto_block 0 with (at_builtin; refine wpList_append_bytes rfl (.tmp 17) (.tmp 18) 22 rfl w.heap.size 5 i0 slice_u8 hi hz0 hz1 hz2 _ m.length (m.map bv) rfl (H1.out.alloc _) (w1.heap.size + 1) _ [128] rfl HM.out (by simp; omega) (by have := HB1.out.size; simp; omega) ?_; intro v2 w2 hown2 hg2 hat2; obtain ⟨A2, c2, rfl⟩ := own_form hown2)
  have hb2 : Below w.heap.size w w2 := (HB1.out.alloc HB1.out.size _).grown hg2 (by have := HB1.out.size; simp; omega) (fun j hj => (H1.out.lt j hj).1)
  have how2 : OwnB w2 w.heap.size (.slice A2 (m.length + [(128 : UInt8)].length) c2) (m ++ [128] ++ List.replicate 0 0) := by
    unfold OwnB
    simpa using hown2
  have H2 := Lib.hid how2
  have HB2 := Lib.hid hb2
  clear hown2 hg2 hat2 hb2 how2 HM H1
  go_cut [9] (fun v wx => OwnB wx w.heap.size v (m ++ [128] ++ List.replicate Z 0) ∧ Below w.heap.size w wx)
  case first =>
    go_wp2_with fail
    go_loopw [9] (fun v wr => ∃ k : Nat, k ≤ Z ∧ OwnB wr w.heap.size v (m ++ [128] ++ List.replicate k 0) ∧ Below w.heap.size w wr) (fun v _ => Z + m.length + 2 - slen v)
    case atStart => exact ⟨0, by omega, H2.out, HB2.out⟩
    case round =>
      obtain ⟨k, hk, hown, hbel⟩ := hrel
      obtain ⟨ys, hys⟩ : ∃ ys, ys = m ++ [128] ++ List.replicate k 0 := ⟨_, rfl⟩
      have hyl : ys.length = m.length + 1 + k := by rw [hys]; simp; omega
      rw [← hys] at hown
      obtain ⟨A3, c3, rfl⟩ := hown.form
      obtain ⟨r, hr⟩ : ∃ r, r = ys.length % 64 := ⟨_, rfl⟩
      have er : (ys.length : Int) % 64 = (r : Int) := by omega
      have HR := Lib.hid hr
      have HY := Lib.hid hys
      have HYL := Lib.hid hyl
      clear hr hys hyl
      by_cases hlt : k < Z
      · have hrn : ((r : Int) != 56) = true := by have := HZN.out k hlt; have := HR.out; have := HYL.out; simp; omega
        have hmade : Byt (wr.alloc (.cells #[.int .u8 0] 5)) (wr.heap.size + 1) (.slice (some ⟨wr.heap.size, 0, none⟩) 1 1) [0] := Byt.made wr _ [_] [0] rfl (by unfold maxLen; simp)
        have HM := Lib.hid hmade
        have HO := Lib.hid (show wr.ownsRow w.heap.size 5 1 (.slice A3 ys.length c3) ys.length (ys.map bv) from hown)
        clear hmade hown
        go_wp2_with (at_builtin; refine wpList_append_bytes rfl (.tmp 28) (.tmp 29) 22 rfl w.heap.size 5 i0 slice_u8 hi hz0 hz1 hz2 _ ys.length (ys.map bv) rfl (HO.out.alloc _) (wr.heap.size + 1) _ [0] rfl HM.out (by have := HYL.out; simp; omega) (by have := hbel.size; simp; omega) ?_; intro v4 w4 hown4 hg4 hat4; obtain ⟨A4, c4, rfl⟩ := own_form hown4)
        have hb4 : Below w.heap.size w w4 := (hbel.alloc hbel.size _).grown hg4 (by have := hbel.size; simp; omega) (fun j hj => (HO.out.lt j hj).1)
        refine ⟨⟨k + 1, by omega, ?_, hb4⟩, by have := HYL.out; simp only [slen, List.length_cons, List.length_nil]; omega⟩
        have e : m ++ [128] ++ List.replicate (k + 1) 0 = ys ++ [(0 : UInt8)] := by rw [HY.out, List.replicate_succ', ← List.append_assoc]
        rw [e]
        unfold OwnB
        rw [List.length_append, List.map_append]
        exact hown4
      · obtain rfl : k = Z := by omega
        have hrn : ((r : Int) != 56) = false := by have := HZZ.out; have := HR.out; have := HYL.out; simp; omega
        rw [HY.out] at hown
        have hown' : OwnB wr w.heap.size (.slice A3 ys.length c3) (m ++ [128] ++ List.replicate k 0) := by rw [HY.out]; exact hown
        have HO := Lib.hid hown'
        have HBE := Lib.hid hbel
        clear hown hown' hbel
        go_wp2_with fail
        go_meet
        exact ⟨HO.out, HBE.out⟩
  case rest =>
    obtain ⟨hown, hbel⟩ := hcut
    obtain ⟨pre, hpre⟩ : ∃ pre, pre = m ++ [128] ++ List.replicate Z 0 := ⟨_, rfl⟩
    have hpl : pre.length = m.length + 1 + Z := by rw [hpre]; simp; omega
    rw [← hpre] at hown
    obtain ⟨A3, c3, rfl⟩ := hown.form
    obtain ⟨N, hN⟩ : ∃ N : Nat, N = 8 * m.length := ⟨_, rfl⟩
    have eN : (m.length : Int) * 8 = (N : Int) := by omega
    have HO := Lib.hid hown
    have HBE := Lib.hid hbel
    have HPL := Lib.hid hpl
    have HPRE := Lib.hid hpre
    have HN := Lib.hid hN
    obtain ⟨D, hD⟩ : ∃ D, D = wc.heap.size := ⟨_, rfl⟩
    have HD := Lib.hid hD
    have HZV := HZ
    clear hown hbel hpl hpre hN hD HZ HZZ HZN H2 HB2 HB1
    go_upto_block 2 with fail
    go_cut [9, 11] (fun v9 v11 wx => v9 = .slice A3 pre.length c3 ∧ OwnB wx D v11 (low (N : Int) 8) ∧ Below D wc wx)
    case first =>
      go_wp2_with fail
      go_loopw [10, 11, 12] (fun xv v iv wr => ∃ (q : Int) (zs : List UInt8), zs.length ≤ 8 ∧ iv = .int .i64 (zs.length : Int) ∧ xv = .int .u64 q ∧ 0 ≤ q ∧ q < 18446744073709551616 ∧ Hid (low (N : Int) 8 = zs ++ low q (8 - zs.length)) ∧
          OwnB wr D v zs ∧ Below D wc wr) (fun _ _ iv _ => 8 - (intOf iv).toNat)
      case atStart => exact ⟨N, [], by simp, rfl, rfl, by omega, by have := HN.out; omega, Lib.hid rfl, OwnB.nil _ _, by rw [HD.out]; exact Below.refl _ _⟩
      case round =>
        obtain ⟨q, zs, hz, rfl, rfl, hm0, hm1, hlow, hown, hbel⟩ := hrel
        obtain ⟨A4, c4, rfl⟩ := hown.form
        by_cases hlt : zs.length < 8
        · have hmade : Byt (wr.alloc (.cells #[.int .u8 (q % 256)] 5)) (wr.heap.size + 1) (.slice (some ⟨wr.heap.size, 0, none⟩) 1 1) [b8 q] := Byt.made wr _ [_] [b8 q] (by simp [bv_b8]) (by unfold maxLen; simp)
          have hsz : D ≤ wr.heap.size := by have := hbel.size; have := HD.out; omega
          have HO2 := Lib.hid (show wr.ownsRow D 5 1 (.slice A4 zs.length c4) zs.length (zs.map bv) from hown)
          have HM := Lib.hid hmade
          clear hmade hown
          go_wp2_with (at_builtin; refine wpList_append_bytes rfl (.tmp 40) (.tmp 44) 22 rfl D 5 i0 slice_u8 hi hz0 hz1 hz2 _ zs.length (zs.map bv) rfl (HO2.out.alloc _) (wr.heap.size + 1) _ [b8 q] rfl HM.out (by simp; omega) (by simp; omega) ?_; intro v5 w5 hown5 hg5 hat5; obtain ⟨A5, c5, rfl⟩ := own_form hown5)
          have hb5 : Below D wc w5 := (hbel.alloc hsz _).grown hg5 (by simp; omega) (fun j hj => (HO2.out.lt j hj).1)
          have hstep := low_step hlt hlow.out
          refine ⟨⟨q / 256, zs ++ [b8 q], by simp; omega, by simp, rfl, by omega, by omega, Lib.hid hstep, ?_, hb5⟩, by simp [intOf]; omega⟩
          unfold OwnB
          rw [List.length_append, List.map_append]
          exact hown5
        · have hzk : zs.length = 8 := by omega
          have hlz : low (N : Int) 8 = zs := by
            have h := hlow.out
            rw [hzk, Nat.sub_self] at h
            simpa [low] using h
          have HO2 := Lib.hid hown
          have HLZ := Lib.hid hlz
          have HBE2 := Lib.hid hbel
          clear hown hlz hbel hlow hzk
          go_wp2_with fail
          go_meet
          exact ⟨rfl, by rw [HLZ.out]; exact HO2.out, HBE2.out⟩
    case rest =>
      obtain ⟨rfl, hownL, hbelL⟩ := hcut
      obtain ⟨lb, hlb⟩ : ∃ lb, lb = low (N : Int) 8 := ⟨_, rfl⟩
      have hlbl : lb.length = 8 := by rw [hlb, low_length]
      rw [← hlb] at hownL
      obtain ⟨gl, cl, rfl, hgD, hgs, hcl⟩ := hownL.block (by omega)
      have hcap : cl ≤ 9223372036854775807 := by
        have h := hownL.byt
        obtain ⟨_, c', e, _, h2, _⟩ := h
        injection e with _ _ e3
        subst e3
        unfold maxLen at h2
        exact h2
      have hcell : ∀ (j : Nat) (u : UInt8), lb[j]? = some u → wc.cell? ⟨gl, j, none⟩ = some (bv u) := fun j u hu => hownL.cell hu
      have hpre0 : OwnB wc w.heap.size (.slice A3 pre.length c3) (pre ++ (lb.reverse).take 0) := by
        rw [List.take_zero, List.append_nil]
        exact own_turns (S := fun k => D ≤ k) HO.out ⟨hbelL.os, hbelL.tape, hbelL.output, hbelL.size, fun k hk hn => hbelL.block k (by omega)⟩ (fun k hk => by have := (HO.out.lt k hk).2; have := HD.out; omega)
      have hneq : (Value.slice A3 pre.length c3).ownBlock ≠ some gl := fun h => by have := (HO.out.lt gl h).2; have := HD.out; omega
      have hbelW : Below w.heap.size w wc := HBE.out.trans (hbelL.mono (by have := HBE.out.size; have := HD.out; omega))
      have HLB := Lib.hid hlb
      have HLBL := Lib.hid hlbl
      rw [hlbl]
      have HP0 := Lib.hid hpre0
      have HNQ := Lib.hid hneq
      have HC0 := Lib.hid hcell
      have HBW := Lib.hid hbelW
      obtain ⟨wL, hwL⟩ : ∃ wL : World, wL = wc := ⟨_, rfl⟩
      clear hlb hlbl hownL hbelL hpre0 hneq hcell hbelW HO HBE
      go_wp2_with fail
      go_loopw [9, 13] (fun v iv wr => ∃ i : Nat, i ≤ 8 ∧ iv = .int .i64 (i : Int) ∧ OwnB wr w.heap.size v (pre ++ (lb.reverse).take i) ∧ v.ownBlock ≠ some gl ∧ gl < wr.heap.size ∧ Hid (∀ (j : Nat) (u : UInt8), lb[j]? = some u → wr.cell? ⟨gl, j, none⟩ = some (bv u)) ∧ Below w.heap.size w wr) (fun _ iv _ => 8 - (intOf iv).toNat)
      case atStart => exact ⟨0, by omega, rfl, HP0.out, HNQ.out, hgs, HC0, HBW.out⟩
      case round =>
        obtain ⟨i, hi2, rfl, hown, hne, hgr, hcr, hbel⟩ := hrel
        obtain ⟨ys, hys⟩ : ∃ ys, ys = pre ++ (lb.reverse).take i := ⟨_, rfl⟩
        have hyl : ys.length = pre.length + i := by rw [hys, List.length_append, List.length_take]; have := HLBL.out; simp; omega
        rw [← hys] at hown
        obtain ⟨A4, c4, rfl⟩ := hown.form
        by_cases hlt : i < 8
        · obtain ⟨p, hp⟩ : ∃ p, p = 8 - 1 - i := ⟨_, rfl⟩
          have ep : 8 - 1 - (i : Int) = (p : Int) := by omega
          have hpl2 : (p : Int) < 8 := by omega
          obtain ⟨u, hu⟩ : ∃ u, lb[p]? = some u := ⟨_, List.getElem?_eq_getElem (by have := HLBL.out; omega)⟩
          have hcu : wr.cell? ⟨gl, p, none⟩ = some (.int .u8 (u.toNat : Int)) := hcr.out p u hu
          have hfu : (lb.reverse)[i]? = some u := by
            rw [List.getElem?_reverse (by have := HLBL.out; omega), HLBL.out, ← hp]; exact hu
          have hmade : Byt (wr.alloc (.cells #[.int .u8 (u.toNat : Int)] 5)) (wr.heap.size + 1) (.slice (some ⟨wr.heap.size, 0, none⟩) 1 1) [u] := Byt.made wr _ [_] [u] rfl (by unfold maxLen; simp)
          have HO2 := Lib.hid (show wr.ownsRow w.heap.size 5 1 (.slice A4 ys.length c4) ys.length (ys.map bv) from hown)
          have HM := Lib.hid hmade
          have HY := Lib.hid hys
          have HYL := Lib.hid hyl
          have HFU := Lib.hid hfu
          
          
          rw [show p = 7 - i from hp] at hcu
          clear hmade hown hys hyl hfu hu ep hpl2 hp
          go_wp2_with (at_builtin; refine wpList_append_bytes rfl (.tmp 61) (.tmp 69) 22 rfl w.heap.size 5 i0 slice_u8 hi hz0 hz1 hz2 _ ys.length (ys.map bv) rfl (HO2.out.alloc _) (wr.heap.size + 1) _ [u] rfl HM.out (by have := HYL.out; have := HPL.out; simp; omega) (by have := hbel.size; simp; omega) ?_; intro v5 w5 hown5 hg5 hat5; obtain ⟨A5, c5, rfl⟩ := own_form hown5)
          have hb5 : Below w.heap.size w w5 := (hbel.alloc hbel.size _).grown hg5 (by have := hbel.size; simp; omega) (fun j hj => (HO2.out.lt j hj).1)
          refine ⟨⟨i + 1, by omega, by go_num, ?_, ?_, ?_, Lib.hid ?_, hb5⟩, by simp [intOf]; omega⟩
          · have e : pre ++ (lb.reverse).take (i + 1) = ys ++ [u] := by rw [HY.out, List.take_add_one, HFU.out, List.append_assoc]; rfl
            rw [e]
            unfold OwnB
            rw [List.length_append, List.map_append]
            exact hown5
          · show (Value.slice A5 (ys.length + [u].length) c5).ownBlock ≠ some gl
            rcases hat5 with h | h
            · rw [h]; exact hne
            · rw [h]; intro h2; injection h2 with h2; simp at h2; omega
          · have := hg5.size; simp at this; omega
          · intro j u2 hu2
            refine (World.cell?_of_block (w := wr) (a := ⟨gl, j, none⟩) ?_).trans (hcr.out j u2 hu2)
            have h1 := hg5.block gl (by simp; omega) (fun h => hne h.symm)
            exact h1.trans (Below.heap_alloc _ _ _ hgr)
        · have hin : (lb.reverse).take i = lb.reverse := List.take_of_length_le (by have := HLBL.out; simp; omega)
          have e : ys = fillG m 64 8 false := by
            rw [hys, hin, HPRE.out, HLB.out, HN.out, HZV.out]
            unfold fillG
            simp
          have HE := Lib.hid e
          have HO2 := Lib.hid hown
          have HBE2 := Lib.hid hbel
          clear e hown hbel hys hin
          go_wp2_with fail
          go_ret
          exact ⟨_, rfl, by rw [← HE.out]; exact HO2.out, HBE2.out⟩
end Go.Proofs.YtehodjbjioepnaaDoor

/-
  The reference's Sum256, on plain numbers. Conditions: none (plain mathematics).
-/
namespace Go.Proofs.YtehodjbjioepnaaDoor
open Go.RowKit

theorem b8_lenB (n : Nat) : (low ((8 * n : Nat) : Int) 8).reverse = lenB n := by
  have h : ∀ (m : Int) (k : Nat), b8 (m / 256 ^ k) = b8 (m / 256 ^ k) := fun _ _ => rfl
  unfold lenB
  simp only [low, List.reverse_cons, List.reverse_nil, List.nil_append, List.cons_append, List.range_succ, List.range_zero, List.map_append, List.map_cons, List.map_nil]
  have e : ∀ (x : Int) (y : Nat), x = (y : Int) → b8 x = UInt8.ofNat (y % 256) := fun x y hxy => by
    apply UInt8.toNat_inj.1
    have h1 := b8_toNat x
    have h2 : ((UInt8.ofNat (y % 256)).toNat : Int) = ((y % 256 : Nat) : Int) := byte_of
    omega
  rw [e _ (8 * n / 256 ^ (7 - 0)) (by omega), e _ (8 * n / 256 ^ (7 - 1)) (by omega), e _ (8 * n / 256 ^ (7 - 2)) (by omega), e _ (8 * n / 256 ^ (7 - 3)) (by omega), e _ (8 * n / 256 ^ (7 - 4)) (by omega), e _ (8 * n / 256 ^ (7 - 5)) (by omega), e _ (8 * n / 256 ^ (7 - 6)) (by omega), e _ (8 * n / 256 ^ (7 - 7)) (by omega)]
theorem fillG_256 (m : List UInt8) : fillG m 64 8 false = full m := by
  unfold fillG full padB
  have e : zeroG m.length 64 8 = (119 - m.length % 64) % 64 := by unfold zeroG; omega
  rw [e]
  simp only [Bool.false_eq_true, if_false, b8_lenB, List.append_assoc]
/-- A word's first bytes. -/
def accW (bs : List UInt8) (t : Nat) : Nat → Int
  | 0 => 0
  | i + 1 => accW bs t i * 256 + ((bs.getD (4 * t + i) 0).toNat : Int)
theorem accW_four (bs : List UInt8) (t : Nat) : accW bs t 4 = wordAt bs t := by
  unfold wordAt be32
  simp only [accW, Nat.add_zero]
  omega
theorem accW_bd (bs : List UInt8) (t : Nat) : ∀ i, i ≤ 3 → 0 ≤ accW bs t i ∧ accW bs t i < 16777216
  | 0, _ => by simp [accW]
  | 1, _ => by have h0 := (bs.getD (4 * t + 0) 0).toNat_lt; simp only [accW]; omega
  | 2, _ => by have h0 := (bs.getD (4 * t + 0) 0).toNat_lt; have h1 := (bs.getD (4 * t + 1) 0).toNat_lt; simp only [accW]; omega
  | 3, _ => by have h0 := (bs.getD (4 * t + 0) 0).toNat_lt; have h1 := (bs.getD (4 * t + 1) 0).toNat_lt; have h2 := (bs.getD (4 * t + 2) 0).toNat_lt; simp only [accW]; omega
  | i + 4, h => absurd h (by omega)
theorem set_same {xs : List Int} {t : Nat} {z : Int} (h : xs[t]? = some z) : xs.set t z = xs := by
  apply List.ext_getElem?
  intro i
  rw [List.getElem?_set]
  split
  · rename_i e
    subst e
    split
    · exact h.symm
    · rename_i h2; rw [List.getElem?_eq_none (by omega)] at h; cases h
  · rfl
theorem outB_at (hs : List Int) : ∀ {i : Nat} {x : Int}, hs[i / 4]? = some x → U32 x → (nums (outB hs))[i]? = some (x / 2 ^ (24 - 8 * (i % 4)) % 256) := by
  induction hs with
  | nil => intro i x h; simp at h
  | cons y hs ih =>
    intro i x h hx
    have e : outB (y :: hs) = outB [y] ++ outB hs := by unfold outB; simp
    rw [e, nums_append]
    have hl : (nums (outB [y])).length = 4 := by rw [nums_length, outB_length]; rfl
    rcases Nat.lt_or_ge i 4 with h4 | h4
    · have h0 : i / 4 = 0 := by omega
      rw [h0] at h
      obtain rfl : y = x := Option.some.inj h
      rw [List.getElem?_append_left (by omega), word_bytes hx]
      obtain rfl | rfl | rfl | rfl : i = 0 ∨ i = 1 ∨ i = 2 ∨ i = 3 := by omega
      · rfl
      · rfl
      · rfl
      · simp
    · have h1 : i / 4 = (i - 4) / 4 + 1 := by omega
      rw [h1, List.getElem?_cons_succ] at h
      rw [List.getElem?_append_right (by omega), hl, ih h hx]
      congr 4
      omega
end Go.Proofs.YtehodjbjioepnaaDoor

/-
  The reference's Sum256: a block's sixteen words. Conditions: the block has 64 bytes.
-/
namespace Go.Proofs.YtehodjbjioepnaaDoor
open Go.RowKit

def findBlock (n : Nat) : Code → Option Code
  | .seq a b => match findBlock n a with
    | some c => some c
    | none => findBlock n b
  | .block k c => if k = n then some (.block k c) else findBlock n c
  | .loop c => findBlock n c
  | .scope c => findBlock n c
  | .cond _ a b => match findBlock n a with
    | some c => some c
    | none => findBlock n b
  | _ => none
noncomputable def blkOf (n : Nat) (f : Func) : Code := (f.body.bind (findBlock n)).getD .skip

set_option maxRecDepth 1000000 in
set_option maxHeartbeats 6400000 in
theorem rb2_any {Q : Exit → Act → World → Prop} (W gm p M cm : Nat) (bs : List UInt8) (w4 : World) (hbl : bs.length = 64) (hpM : p + 64 ≤ M) (hM : M ≤ 100200) (hWm : gm < W) (r0 : IRow w4 W 62 .u32 (List.replicate 64 0)) (hc : ∀ (j : Nat) (u : UInt8), bs[j]? = some u → w4.cell? ⟨gm, p + j, none⟩ = some (bv u)) (u0 u1 u2 u3 u4 u9 u10 u11 u12 u13 u14 u15 u16 u17 u18 u19 u20 u21 u22 u23 u24 u25 u26 u27 u28 u29 u30 u31 u32 u33 u34 u35 u36 u37 u38 u39 u40 u41 u42 u43 u44 u45 u46 u47 u48 u49 u50 u51 u52 u53 u54 u55 u56 u57 u58 u59 u60 u61 u62 u63 u64 u65 u66 u67 u68 u69 u70 u71 u72 u73 u74 u75 u76 u77 u78 u79 u80 u81 u82 u83 u84 u85 u86 u87 u88 u89 u90 u91 u92 u93 u94 u95 u96 u97 u98 u99 u100 u101 u102 u103 u104 u105 u106 u107 u108 u109 u110 u111 u112 u113 u114 u115 u116 u117 u118 u119 u120 u121 u122 u123 u124 u125 u126 u127 u128 u129 u130 u131 u132 u133 u134 u135 u136 u137 u138 u139 u140 u141 u142 u143 u144 u145 u146 u147 u148 u149 u150 u151 u152 u153 u154 u155 u156 u157 u158 u159 u160 u161 u162 u163 u164 u165 u166 u167 u168 u169 u170 u171 u172 u173 u174 u175 u176 u177 u178 u179 u180 u181 u182 u183 u184 u185 u186 u187 u188 u189 u190 u191 u192 u193 u194 u195 u196 u197 u198 u199 u200 u201 u202 u203 u204 u205 u206 u207 u208 u209 u210 u211 u212 u213 u214 u215 u216 u217 u218 u219 u220 u221 u222 u223 u224 u225 u226 u227 : Value)
    (hPan : ∀ (c : List PanicEntry) (a : Act) (d : Tmp) (v : Value) (w : World), Q (.panic c) (a.put (some d) v) w → Q (.panic c) a w)
    (hQ : ∀ (v8 v9 v30 v31 v32 v33 v34 v35 v36 v37 v38 v39 v40 v41 v42 v43 v44 v45 v46 v47 v48 v49 v50 v51 v52 v53 v54 : Value) (w' : World), IRow w' W 62 .u32 (padZ 64 (words16 bs)) → Below W w4 w' → Q .normal ⟨#[u0, u1, u2, u3, u4, .slice (some ⟨gm, 0, none⟩) M cm, .int .i64 (p : Int), .pointer (some ⟨W, 0, none⟩), v8, v9, u10, u11, u12, u13, u14, u15, u16, u17, u18, u19, u20, u21, u22, u23, u24, u25, u26, u27, u28, u29, v30, v31, v32, v33, v34, v35, v36, v37, v38, v39, v40, v41, v42, v43, v44, v45, v46, v47, v48, v49, v50, v51, v52, v53, v54, u55, u56, u57, u58, u59, u60, u61, u62, u63, u64, u65, u66, u67, u68, u69, u70, u71, u72, u73, u74, u75, u76, u77, u78, u79, u80, u81, u82, u83, u84, u85, u86, u87, u88, u89, u90, u91, u92, u93, u94, u95, u96, u97, u98, u99, u100, u101, u102, u103, u104, u105, u106, u107, u108, u109, u110, u111, u112, u113, u114, u115, u116, u117, u118, u119, u120, u121, u122, u123, u124, u125, u126, u127, u128, u129, u130, u131, u132, u133, u134, u135, u136, u137, u138, u139, u140, u141, u142, u143, u144, u145, u146, u147, u148, u149, u150, u151, u152, u153, u154, u155, u156, u157, u158, u159, u160, u161, u162, u163, u164, u165, u166, u167, u168, u169, u170, u171, u172, u173, u174, u175, u176, u177, u178, u179, u180, u181, u182, u183, u184, u185, u186, u187, u188, u189, u190, u191, u192, u193, u194, u195, u196, u197, u198, u199, u200, u201, u202, u203, u204, u205, u206, u207, u208, u209, u210, u211, u212, u213, u214, u215, u216, u217, u218, u219, u220, u221, u222, u223, u224, u225, u226, u227], []⟩ w') :
    Code.wp Tryd.prog (blkOf 2 Tryd.f34) Q ⟨#[u0, u1, u2, u3, u4, .slice (some ⟨gm, 0, none⟩) M cm, .int .i64 (p : Int), .pointer (some ⟨W, 0, none⟩), .int .i64 0, u9, u10, u11, u12, u13, u14, u15, u16, u17, u18, u19, u20, u21, u22, u23, u24, u25, u26, u27, u28, u29, u30, u31, u32, u33, u34, u35, u36, u37, u38, u39, u40, u41, u42, u43, u44, u45, u46, u47, u48, u49, u50, u51, u52, u53, u54, u55, u56, u57, u58, u59, u60, u61, u62, u63, u64, u65, u66, u67, u68, u69, u70, u71, u72, u73, u74, u75, u76, u77, u78, u79, u80, u81, u82, u83, u84, u85, u86, u87, u88, u89, u90, u91, u92, u93, u94, u95, u96, u97, u98, u99, u100, u101, u102, u103, u104, u105, u106, u107, u108, u109, u110, u111, u112, u113, u114, u115, u116, u117, u118, u119, u120, u121, u122, u123, u124, u125, u126, u127, u128, u129, u130, u131, u132, u133, u134, u135, u136, u137, u138, u139, u140, u141, u142, u143, u144, u145, u146, u147, u148, u149, u150, u151, u152, u153, u154, u155, u156, u157, u158, u159, u160, u161, u162, u163, u164, u165, u166, u167, u168, u169, u170, u171, u172, u173, u174, u175, u176, u177, u178, u179, u180, u181, u182, u183, u184, u185, u186, u187, u188, u189, u190, u191, u192, u193, u194, u195, u196, u197, u198, u199, u200, u201, u202, u203, u204, u205, u206, u207, u208, u209, u210, u211, u212, u213, u214, u215, u216, u217, u218, u219, u220, u221, u222, u223, u224, u225, u226, u227], []⟩ w4 := by
  conv => arg 2; whnf
  have HC := Lib.hid hc
  have HBL := Lib.hid hbl
  have HQ := Lib.hid hQ
  have R0 := Lib.hid r0
  clear hc hbl hQ r0
  go_wp2_with fail
  go_loopw [8] (fun v8 wt => ∃ t : Nat, t ≤ 16 ∧ v8 = .int .i64 (t : Int) ∧ IRow wt W 62 .u32 (padZ 64 (wordsN bs t)) ∧ Below W w4 wt) (fun v8 _ => 16 - (intOf v8).toNat)
  case atStart => exact ⟨0, by omega, rfl, R0.out, Below.refl _ _⟩
  case round =>
    obtain ⟨t, ht, rfl, rt, bt⟩ := hrel
    obtain ⟨w5, hw5⟩ : ∃ w5 : World, w5 = wr := ⟨_, rfl⟩
    rw [← hw5] at rt bt ⊢
    clear hw5
    by_cases h16 : t < 16
    · have hwl := wordsN_length bs t
      have h0 : (padZ 64 (wordsN bs t)).set t 0 = padZ 64 (wordsN bs t) := by
        refine set_same ?_
        have h := padZ_next (n := 64) (l := wordsN bs t) (by omega)
        rw [hwl] at h
        exact h
      have h4 : (padZ 64 (wordsN bs t)).set t (accW bs t 4) = padZ 64 (wordsN bs (t + 1)) := by
        have h := padZ_set (n := 64) (l := wordsN bs t) (z := wordAt bs t) (by omega)
        rw [hwl] at h
        rw [accW_four, wordsN_succ, ← h]
      have RT := Lib.hid (show IRow w5 W 62 .u32 ((padZ 64 (wordsN bs t)).set t (accW bs t 0)) by rw [show accW bs t 0 = 0 from rfl, h0]; exact rt)
      have BT := Lib.hid bt
      have H4 := Lib.hid h4
      obtain ⟨P, hP⟩ : ∃ P, P = padZ 64 (wordsN bs t) := ⟨_, rfl⟩
      rw [← hP] at RT H4
      have hPl : P.length = 64 := by rw [hP]; exact padZ_length (by omega)
      have HPL := Lib.hid hPl
      have hd16 : decide ((t : Int) < 16) = true := decide_eq_true (by omega)
      clear rt bt h0 h4 hwl hP hPl
      go_wp2_with fail
      go_loopw [9] (fun v9 wi => ∃ i : Nat, i ≤ 4 ∧ v9 = .int .i64 (i : Int) ∧ IRow wi W 62 .u32 (P.set t (accW bs t i)) ∧ Below W w4 wi) (fun v9 _ => 4 - (intOf v9).toNat)
      case atStart => exact ⟨0, by omega, rfl, RT.out, BT.out⟩
      case round =>
        obtain ⟨i, hi, rfl, ri, bi⟩ := hrel
        by_cases hi4 : i < 4
        · obtain ⟨u, hu⟩ : ∃ u, bs[4 * t + i]? = some u := ⟨_, List.getElem?_eq_getElem (by have := HBL.out; omega)⟩
          obtain ⟨k, hk⟩ : ∃ k, k = p + 4 * t + i := ⟨_, rfl⟩
          have hcu : wr.cell? ⟨gm, k, none⟩ = some (.int .u8 (u.toNat : Int)) := by
            have h := HC.out (4 * t + i) u hu
            rw [show p + (4 * t + i) = k by omega] at h
            exact (bi.cell (p := ⟨gm, k, none⟩) hWm).trans h
          obtain ⟨a, ha⟩ : ∃ a, a = accW bs t i := ⟨_, rfl⟩
          have hab := accW_bd bs t i (by omega)
          rw [← ha] at hab ri
          have hcw : wr.cell? ⟨W, t, none⟩ = some (.int .u32 a) := ri.cell (by rw [List.getElem?_set, if_pos rfl, if_pos (by have := HPL.out; omega)])
          have hfw := ri.free t
          have hset := ri.set t (a * 256 + (u.toNat : Int))
          have hu256 := u.toNat_lt
          have han : accW bs t (i + 1) = a * 256 + (u.toNat : Int) := by
            show accW bs t i * 256 + ((bs.getD (4 * t + i) 0).toNat : Int) = _
            rw [← ha, List.getD_eq_getElem?_getD, hu]
            rfl
          rw [List.set_set, ← han] at hset
          obtain ⟨z, hz⟩ : ∃ z, z = accW bs t (i + 1) := ⟨_, rfl⟩
          rw [← hz] at hset han
          have e1 : IntKind.i64.wrap (4 * (t : Int)) = 4 * (t : Int) := by rw [IntWalk.i64_in _ (by omega)]
          have e2 : IntKind.i64.wrap ((p : Int) + 4 * (t : Int)) = (p : Int) + 4 * (t : Int) := by rw [IntWalk.i64_in _ (by omega)]
          have e3 : IntKind.i64.wrap ((p : Int) + 4 * (t : Int) + (i : Int)) = (k : Int) := by rw [IntWalk.i64_in _ (by omega)]; omega
          have e4 : IntKind.u32.wrap (a * 256) = a * 256 := by rw [u32_wrap]; omega
          have e5 : IntKind.u32.wrap (a * 256 + (u.toNat : Int)) = z := by rw [u32_wrap, han]; omega
          have e6 : IntKind.u32.wrap (u.toNat : Int) = (u.toNat : Int) := by rw [u32_wrap]; omega
          have b1 : (t : Int) < 64 := by omega
          have b2 : (k : Int) < (M : Int) := by omega
          have HSET := Lib.hid hset
          have HZ := Lib.hid hz
          have BI := Lib.hid bi
          have hbi4 : (i : Int) < 4 := by omega
          clear hu hk ha hset han ri bi hz
          go_wp2_with fail
          refine wp_region_held_drew (S := (fun w' => w'.cell? ⟨gm, k, none⟩ = some (.int .u8 (u.toNat : Int)))) (by kernel_rfl) ?_ (fun hHeld => ?_)
          · exact hcu
          refine wpAnyH_take (i := 0) (oi := { dst := some 38, op := Go.Op.move (Go.Operand.tmp 8), type := 3, pos := "ref.go:42", after := #[], guard := none }) (v := ?av0) rfl (by kernel_rfl) (by kernel_rfl) (by kernel_rfl) (fun _ _ _ h => hPan _ _ _ _ _ h) (Or.inl ⟨by rfl, ?ay0⟩) (by assumption) ?ar0
          case ay0 => (intro w hSw; (try dsimp only at hSw); go_simp; try (with_reducible rfl))
          case ar0 =>
          try simp only [Act.put, List.setIfInBounds_toArray, List.set_cons_zero, List.set_cons_succ]
          refine wpAnyH_take (i := 1) (oi := { dst := some 39, op := Go.Op.move (Go.Operand.tmp 8), type := 3, pos := "ref.go:42", after := #[], guard := none }) (v := ?av1) rfl (by kernel_rfl) (by kernel_rfl) (by kernel_rfl) (fun _ _ _ h => hPan _ _ _ _ _ h) (Or.inl ⟨by rfl, ?ay1⟩) (by assumption) ?ar1
          case ay1 => (intro w hSw; (try dsimp only at hSw); go_simp; try (with_reducible rfl))
          case ar1 =>
          try simp only [Act.put, List.setIfInBounds_toArray, List.set_cons_zero, List.set_cons_succ]
          refine wpAnyH_take (i := 2) (oi := { dst := some 40, op := Go.Op.indexAddr 62 (Go.Operand.tmp 7) (Go.Operand.tmp 39), type := 0, pos := "ref.go:42", after := #[{ on := 1, ground := Go.Ground.data }], guard := none }) (v := ?av2) rfl (by kernel_rfl) (by kernel_rfl) (by kernel_rfl) (fun _ _ _ h => hPan _ _ _ _ _ h) (Or.inl ⟨by rfl, ?ay2⟩) (by assumption) ?ar2
          case ay2 => (intro w hSw; (try dsimp only at hSw); go_simp; try (with_reducible rfl))
          case ar2 =>
          try simp only [Act.put, List.setIfInBounds_toArray, List.set_cons_zero, List.set_cons_succ]
          refine wpAnyH_take (i := 5) (oi := { dst := some 43, op := Go.Op.move (Go.Operand.tmp 5), type := 22, pos := "ref.go:42", after := #[], guard := none }) (v := ?av5) rfl (by kernel_rfl) (by kernel_rfl) (by kernel_rfl) (fun _ _ _ h => hPan _ _ _ _ _ h) (Or.inl ⟨by rfl, ?ay5⟩) (by assumption) ?ar5
          case ay5 => (intro w hSw; (try dsimp only at hSw); go_simp; try (with_reducible rfl))
          case ar5 =>
          try simp only [Act.put, List.setIfInBounds_toArray, List.set_cons_zero, List.set_cons_succ]
          refine wpAnyH_take (i := 6) (oi := { dst := some 44, op := Go.Op.move (Go.Operand.tmp 6), type := 3, pos := "ref.go:42", after := #[], guard := none }) (v := ?av6) rfl (by kernel_rfl) (by kernel_rfl) (by kernel_rfl) (fun _ _ _ h => hPan _ _ _ _ _ h) (Or.inl ⟨by rfl, ?ay6⟩) (by assumption) ?ar6
          case ay6 => (intro w hSw; (try dsimp only at hSw); go_simp; try (with_reducible rfl))
          case ar6 =>
          try simp only [Act.put, List.setIfInBounds_toArray, List.set_cons_zero, List.set_cons_succ]
          refine wpAnyH_take (i := 7) (oi := { dst := some 45, op := Go.Op.move (Go.Operand.tmp 8), type := 3, pos := "ref.go:42", after := #[], guard := none }) (v := ?av7) rfl (by kernel_rfl) (by kernel_rfl) (by kernel_rfl) (fun _ _ _ h => hPan _ _ _ _ _ h) (Or.inl ⟨by rfl, ?ay7⟩) (by assumption) ?ar7
          case ay7 => (intro w hSw; (try dsimp only at hSw); go_simp; try (with_reducible rfl))
          case ar7 =>
          try simp only [Act.put, List.setIfInBounds_toArray, List.set_cons_zero, List.set_cons_succ]
          refine wpAnyH_take (i := 8) (oi := { dst := some 46, op := Go.Op.binOp Go.BinOp.mul 3 (Go.Operand.const (Go.Value.int Go.IntKind.i64 4)) (Go.Operand.tmp 45) 3, type := 3, pos := "ref.go:42", after := #[{ on := 7, ground := Go.Ground.data }], guard := none }) (v := ?av8) rfl (by kernel_rfl) (by kernel_rfl) (by kernel_rfl) (fun _ _ _ h => hPan _ _ _ _ _ h) (Or.inl ⟨by rfl, ?ay8⟩) (by assumption) ?ar8
          case ay8 => (intro w hSw; (try dsimp only at hSw); go_simp; try (with_reducible rfl))
          case ar8 =>
          try simp only [Act.put, List.setIfInBounds_toArray, List.set_cons_zero, List.set_cons_succ]
          refine wpAnyH_take (i := 9) (oi := { dst := some 47, op := Go.Op.binOp Go.BinOp.add 3 (Go.Operand.tmp 44) (Go.Operand.tmp 46) 3, type := 3, pos := "ref.go:42", after := #[{ on := 6, ground := Go.Ground.data }, { on := 8, ground := Go.Ground.data }], guard := none }) (v := ?av9) rfl (by kernel_rfl) (by kernel_rfl) (by kernel_rfl) (fun _ _ _ h => hPan _ _ _ _ _ h) (Or.inl ⟨by rfl, ?ay9⟩) (by assumption) ?ar9
          case ay9 => (intro w hSw; (try dsimp only at hSw); go_simp; try (with_reducible rfl))
          case ar9 =>
          try simp only [Act.put, List.setIfInBounds_toArray, List.set_cons_zero, List.set_cons_succ]
          refine wpAnyH_take (i := 10) (oi := { dst := some 48, op := Go.Op.move (Go.Operand.tmp 9), type := 3, pos := "ref.go:42", after := #[], guard := none }) (v := ?av10) rfl (by kernel_rfl) (by kernel_rfl) (by kernel_rfl) (fun _ _ _ h => hPan _ _ _ _ _ h) (Or.inl ⟨by rfl, ?ay10⟩) (by assumption) ?ar10
          case ay10 => (intro w hSw; (try dsimp only at hSw); go_simp; try (with_reducible rfl))
          case ar10 =>
          try simp only [Act.put, List.setIfInBounds_toArray, List.set_cons_zero, List.set_cons_succ]
          refine wpAnyH_take (i := 11) (oi := { dst := some 49, op := Go.Op.binOp Go.BinOp.add 3 (Go.Operand.tmp 47) (Go.Operand.tmp 48) 3, type := 3, pos := "ref.go:42", after := #[{ on := 9, ground := Go.Ground.data }, { on := 10, ground := Go.Ground.data }], guard := none }) (v := ?av11) rfl (by kernel_rfl) (by kernel_rfl) (by kernel_rfl) (fun _ _ _ h => hPan _ _ _ _ _ h) (Or.inl ⟨by rfl, ?ay11⟩) (by assumption) ?ar11
          case ay11 => (intro w hSw; (try dsimp only at hSw); go_simp; try (with_reducible rfl))
          case ar11 =>
          try simp only [Act.put, List.setIfInBounds_toArray, List.set_cons_zero, List.set_cons_succ]
          refine wpAnyH_take (i := 12) (oi := { dst := some 50, op := Go.Op.indexAddr 22 (Go.Operand.tmp 43) (Go.Operand.tmp 49), type := 0, pos := "ref.go:42", after := #[{ on := 5, ground := Go.Ground.data }, { on := 11, ground := Go.Ground.data }], guard := none }) (v := ?av12) rfl (by kernel_rfl) (by kernel_rfl) (by kernel_rfl) (fun _ _ _ h => hPan _ _ _ _ _ h) (Or.inl ⟨by rfl, ?ay12⟩) (by assumption) ?ar12
          case ay12 => (intro w hSw; (try dsimp only at hSw); go_simp; try (with_reducible rfl))
          case ar12 =>
          try simp only [Act.put, List.setIfInBounds_toArray, List.set_cons_zero, List.set_cons_succ]
          refine wpAnyH_take (i := 13) (oi := { dst := some 51, op := Go.Op.load 5 (Go.Operand.tmp 50), type := 5, pos := "ref.go:42", after := #[{ on := 12, ground := Go.Ground.data }], guard := none }) (v := ?av13) rfl (by kernel_rfl) (by kernel_rfl) (by kernel_rfl) (fun _ _ _ h => hPan _ _ _ _ _ h) (Or.inl ⟨by rfl, ?ay13⟩) (by assumption) ?ar13
          case ay13 => (intro w hSw; (try dsimp only at hSw); go_simp; try (with_reducible rfl))
          case ar13 =>
          try simp only [Act.put, List.setIfInBounds_toArray, List.set_cons_zero, List.set_cons_succ]
          refine wpAnyH_take (i := 14) (oi := { dst := some 52, op := Go.Op.convert 5 61 (Go.Operand.tmp 51), type := 61, pos := "ref.go:42", after := #[{ on := 13, ground := Go.Ground.data }], guard := none }) (v := ?av14) rfl (by kernel_rfl) (by kernel_rfl) (by kernel_rfl) (fun _ _ _ h => hPan _ _ _ _ _ h) (Or.inl ⟨by rfl, ?ay14⟩) (by assumption) ?ar14
          case ay14 => (intro w hSw; (try dsimp only at hSw); go_simp; try (with_reducible rfl))
          case ar14 =>
          try simp only [Act.put, List.setIfInBounds_toArray, List.set_cons_zero, List.set_cons_succ]
          refine wpAnyH_ready (rs := [3]) (by kernel_rfl) (by simp) ?_
          refine AllReadyH.cons (o := { dst := some 41, op := Go.Op.load 61 (Go.Operand.tmp 40), type := 61, pos := "ref.go:42", after := #[{ on := 2, ground := Go.Ground.data }], guard := none }) rfl (fun K hK => ?_) (AllReadyH.nil)
          go_simp
          refine hK.out _ _ ?_ (fun hHeld => ?_)
          · exact hHeld
          clear hK K
          try simp only [Act.put, List.setIfInBounds_toArray, List.set_cons_zero, List.set_cons_succ]
          refine wpAnyH_take (i := 4) (oi := { dst := some 42, op := Go.Op.binOp Go.BinOp.mul 61 (Go.Operand.tmp 41) (Go.Operand.const (Go.Value.int Go.IntKind.u32 256)) 61, type := 61, pos := "ref.go:42", after := #[{ on := 3, ground := Go.Ground.data }], guard := none }) (v := ?a_3v4) rfl (by kernel_rfl) (by kernel_rfl) (by kernel_rfl) (fun _ _ _ h => hPan _ _ _ _ _ h) (Or.inl ⟨by rfl, ?a_3y4⟩) (by assumption) ?a_3r4
          case a_3y4 => (intro w hSw; (try dsimp only at hSw); go_simp; try (with_reducible rfl))
          case a_3r4 =>
          try simp only [Act.put, List.setIfInBounds_toArray, List.set_cons_zero, List.set_cons_succ]
          refine wpAnyH_take (i := 15) (oi := { dst := some 53, op := Go.Op.binOp Go.BinOp.add 61 (Go.Operand.tmp 42) (Go.Operand.tmp 52) 61, type := 61, pos := "ref.go:42", after := #[{ on := 4, ground := Go.Ground.data }, { on := 14, ground := Go.Ground.data }], guard := none }) (v := ?a_3v15) rfl (by kernel_rfl) (by kernel_rfl) (by kernel_rfl) (fun _ _ _ h => hPan _ _ _ _ _ h) (Or.inl ⟨by rfl, ?a_3y15⟩) (by assumption) ?a_3r15
          case a_3y15 => (intro w hSw; (try dsimp only at hSw); go_simp; try (with_reducible rfl))
          case a_3r15 =>
          try simp only [Act.put, List.setIfInBounds_toArray, List.set_cons_zero, List.set_cons_succ]
          refine wpAnyH_take (i := 16) (oi := { dst := some 54, op := Go.Op.indexAddr 62 (Go.Operand.tmp 7) (Go.Operand.tmp 38), type := 0, pos := "ref.go:42", after := #[{ on := 0, ground := Go.Ground.data }, { on := 0, ground := Go.Ground.phase }, { on := 1, ground := Go.Ground.phase }, { on := 2, ground := Go.Ground.phase }, { on := 3, ground := Go.Ground.phase }, { on := 4, ground := Go.Ground.phase }, { on := 5, ground := Go.Ground.phase }, { on := 6, ground := Go.Ground.phase }, { on := 7, ground := Go.Ground.phase }, { on := 8, ground := Go.Ground.phase }, { on := 9, ground := Go.Ground.phase }, { on := 10, ground := Go.Ground.phase }, { on := 11, ground := Go.Ground.phase }, { on := 12, ground := Go.Ground.phase }, { on := 13, ground := Go.Ground.phase }, { on := 14, ground := Go.Ground.phase }, { on := 15, ground := Go.Ground.phase }], guard := none }) (v := ?a_3v16) rfl (by kernel_rfl) (by kernel_rfl) (by kernel_rfl) (fun _ _ _ h => hPan _ _ _ _ _ h) (Or.inl ⟨by rfl, ?a_3y16⟩) (by assumption) ?a_3r16
          case a_3y16 => (intro w hSw; (try dsimp only at hSw); go_simp; try (with_reducible rfl))
          case a_3r16 =>
          try simp only [Act.put, List.setIfInBounds_toArray, List.set_cons_zero, List.set_cons_succ]
          refine wpAnyH_ready (rs := [17]) (by kernel_rfl) (by simp) ?_
          refine AllReadyH.cons (o := { dst := none, op := Go.Op.store 61 (Go.Operand.tmp 54) (Go.Operand.tmp 53), type := 0, pos := "ref.go:42", after := #[{ on := 16, ground := Go.Ground.data }, { on := 15, ground := Go.Ground.data }, { on := 0, ground := Go.Ground.phase }, { on := 1, ground := Go.Ground.phase }, { on := 2, ground := Go.Ground.phase }, { on := 3, ground := Go.Ground.phase }, { on := 4, ground := Go.Ground.phase }, { on := 5, ground := Go.Ground.phase }, { on := 6, ground := Go.Ground.phase }, { on := 7, ground := Go.Ground.phase }, { on := 8, ground := Go.Ground.phase }, { on := 9, ground := Go.Ground.phase }, { on := 10, ground := Go.Ground.phase }, { on := 11, ground := Go.Ground.phase }, { on := 12, ground := Go.Ground.phase }, { on := 13, ground := Go.Ground.phase }, { on := 14, ground := Go.Ground.phase }, { on := 15, ground := Go.Ground.phase }], guard := none }) rfl (fun K hK => ?_) (AllReadyH.nil)
          go_simp
          refine hK.out _ _ ?_ (fun hHeld => ?_)
          · exact (World.cell?_setCell_far wr.drew _ _ _ (by show W ≠ gm; omega)).trans hcu
          clear hK K
          try simp only [Act.put]
          refine wpAnyH_done (by kernel_rfl) ?_ _
          go_wp2_with fail
          have HS2 := HSET.out
          have HB2 := (BI.out.setCell (p := ⟨W, t, none⟩) (Nat.le_refl _) (.int .u32 z)).drew
          exact ⟨⟨i + 1, by omega, by go_num, by rw [← HZ.out]; exact HS2, HB2⟩, by simp [intOf]; omega⟩
        · obtain rfl : i = 4 := by omega
          rw [H4.out] at ri
          have RI := Lib.hid ri
          have BI := Lib.hid bi
          have e44 : ((4 : Nat) : Int) = 4 := rfl
          rw [e44]
          clear ri bi e44 hi4
          go_wp2_with fail
          exact ⟨⟨t + 1, by omega, by go_num, RI.out, BI.out⟩, by simp [intOf]; omega⟩
    · obtain rfl : t = 16 := by omega
      have e16 : ((16 : Nat) : Int) = 16 := rfl
      rw [e16]
      have RT := Lib.hid rt
      have BT := Lib.hid bt
      clear rt bt e16 h16
      go_wp2_with fail
      exact HQ.out _ _ _ _ _ _ _ _ _ _ _ _ _ _ _ _ _ _ _ _ _ _ _ _ _ _ _ _ RT.out BT.out
end Go.Proofs.YtehodjbjioepnaaDoor

/-
  The reference's rot. Conditions: none.
-/
namespace Go.Proofs.YtehodjbjioepnaaDoor
open Go.RowKit
set_option maxRecDepth 100000 in
set_option maxHeartbeats 800000 in
theorem rrot_any (x : Int) (n : Nat) (w : World) (_hx : U32 x) (hn : n ≤ 31) :
    Calls Tryd.prog 39 #[.int .u32 x, .int .i64 n] w fun e w' => e = .returned (.int .u32 (rot32 n x)) ∧ w = w' := by
  obtain ⟨q, hq⟩ : ∃ q, q = 32 - n := ⟨_, rfl⟩
  have e3 : (32 : Int) - (n : Int) = (q : Int) := by omega
  have hr : rot32 n x = bits .or .u32 (x * 2 ^ n % 4294967296) (x / 2 ^ q) := by rw [hq]; rfl
  have HR := Lib.hid hr
  have hq32 : q ≤ 32 := by omega
  clear hr hq
  go_enter Tryd.func39, Tryd.ntmps39
  go_wp2
  go_ret
  exact ⟨by rw [HR.out]; rfl, rfl⟩
end Go.Proofs.YtehodjbjioepnaaDoor

/-
  The reference's Sum256: a block's sixty-four words. Conditions: none.
-/
namespace Go.Proofs.YtehodjbjioepnaaDoor
open Go.RowKit

set_option maxRecDepth 1000000 in
set_option maxHeartbeats 6400000 in
theorem rb6_any {Q : Exit → Act → World → Prop} (W : Nat) (bs : List UInt8) (w5 : World) (r0 : IRow w5 W 62 .u32 (padZ 64 (words16 bs))) (u0 u1 u2 u3 u4 u5 u6 u8 u9 u11 u12 u13 u14 u15 u16 u17 u18 u19 u20 u21 u22 u23 u24 u25 u26 u27 u28 u29 u30 u31 u32 u33 u34 u35 u36 u37 u38 u39 u40 u41 u42 u43 u44 u45 u46 u47 u48 u49 u50 u51 u52 u53 u54 u55 u56 u57 u58 u59 u60 u61 u62 u63 u64 u65 u66 u67 u68 u69 u70 u71 u72 u73 u74 u75 u76 u77 u78 u79 u80 u81 u82 u83 u84 u85 u86 u87 u88 u89 u90 u91 u92 u93 u94 u95 u96 u97 u98 u99 u100 u101 u102 u103 u104 u105 u106 u107 u108 u109 u110 u111 u112 u113 u114 u115 u116 u117 u118 u119 u120 u121 u122 u123 u124 u125 u126 u127 u128 u129 u130 u131 u132 u133 u134 u135 u136 u137 u138 u139 u140 u141 u142 u143 u144 u145 u146 u147 u148 u149 u150 u151 u152 u153 u154 u155 u156 u157 u158 u159 u160 u161 u162 u163 u164 u165 u166 u167 u168 u169 u170 u171 u172 u173 u174 u175 u176 u177 u178 u179 u180 u181 u182 u183 u184 u185 u186 u187 u188 u189 u190 u191 u192 u193 u194 u195 u196 u197 u198 u199 u200 u201 u202 u203 u204 u205 u206 u207 u208 u209 u210 u211 u212 u213 u214 u215 u216 u217 u218 u219 u220 u221 u222 u223 u224 u225 u226 u227 : Value)
    (hPan : ∀ (c : List PanicEntry) (a : Act) (d : Tmp) (v : Value) (w : World), Q (.panic c) (a.put (some d) v) w → Q (.panic c) a w)
    (hQ : ∀ (v10 v11 v12 v55 v56 v57 v58 v59 v60 v61 v62 v63 v64 v65 v66 v67 v68 v69 v70 v71 v72 v73 v74 v75 v76 v77 v78 v79 v80 v81 v82 v83 v84 v85 v86 v87 v88 v89 v90 v91 v92 v93 v94 v95 v96 v97 v98 v99 v100 v101 v102 v103 v104 v105 v106 v107 : Value) (w' : World), IRow w' W 62 .u32 (W64 bs) → Below W w5 w' → Q .normal ⟨#[u0, u1, u2, u3, u4, u5, u6, .pointer (some ⟨W, 0, none⟩), u8, u9, v10, v11, v12, u13, u14, u15, u16, u17, u18, u19, u20, u21, u22, u23, u24, u25, u26, u27, u28, u29, u30, u31, u32, u33, u34, u35, u36, u37, u38, u39, u40, u41, u42, u43, u44, u45, u46, u47, u48, u49, u50, u51, u52, u53, u54, v55, v56, v57, v58, v59, v60, v61, v62, v63, v64, v65, v66, v67, v68, v69, v70, v71, v72, v73, v74, v75, v76, v77, v78, v79, v80, v81, v82, v83, v84, v85, v86, v87, v88, v89, v90, v91, v92, v93, v94, v95, v96, v97, v98, v99, v100, v101, v102, v103, v104, v105, v106, v107, u108, u109, u110, u111, u112, u113, u114, u115, u116, u117, u118, u119, u120, u121, u122, u123, u124, u125, u126, u127, u128, u129, u130, u131, u132, u133, u134, u135, u136, u137, u138, u139, u140, u141, u142, u143, u144, u145, u146, u147, u148, u149, u150, u151, u152, u153, u154, u155, u156, u157, u158, u159, u160, u161, u162, u163, u164, u165, u166, u167, u168, u169, u170, u171, u172, u173, u174, u175, u176, u177, u178, u179, u180, u181, u182, u183, u184, u185, u186, u187, u188, u189, u190, u191, u192, u193, u194, u195, u196, u197, u198, u199, u200, u201, u202, u203, u204, u205, u206, u207, u208, u209, u210, u211, u212, u213, u214, u215, u216, u217, u218, u219, u220, u221, u222, u223, u224, u225, u226, u227], []⟩ w') :
    Code.wp Tryd.prog (blkOf 6 Tryd.f34) Q ⟨#[u0, u1, u2, u3, u4, u5, u6, .pointer (some ⟨W, 0, none⟩), u8, u9, .int .i64 16, u11, u12, u13, u14, u15, u16, u17, u18, u19, u20, u21, u22, u23, u24, u25, u26, u27, u28, u29, u30, u31, u32, u33, u34, u35, u36, u37, u38, u39, u40, u41, u42, u43, u44, u45, u46, u47, u48, u49, u50, u51, u52, u53, u54, u55, u56, u57, u58, u59, u60, u61, u62, u63, u64, u65, u66, u67, u68, u69, u70, u71, u72, u73, u74, u75, u76, u77, u78, u79, u80, u81, u82, u83, u84, u85, u86, u87, u88, u89, u90, u91, u92, u93, u94, u95, u96, u97, u98, u99, u100, u101, u102, u103, u104, u105, u106, u107, u108, u109, u110, u111, u112, u113, u114, u115, u116, u117, u118, u119, u120, u121, u122, u123, u124, u125, u126, u127, u128, u129, u130, u131, u132, u133, u134, u135, u136, u137, u138, u139, u140, u141, u142, u143, u144, u145, u146, u147, u148, u149, u150, u151, u152, u153, u154, u155, u156, u157, u158, u159, u160, u161, u162, u163, u164, u165, u166, u167, u168, u169, u170, u171, u172, u173, u174, u175, u176, u177, u178, u179, u180, u181, u182, u183, u184, u185, u186, u187, u188, u189, u190, u191, u192, u193, u194, u195, u196, u197, u198, u199, u200, u201, u202, u203, u204, u205, u206, u207, u208, u209, u210, u211, u212, u213, u214, u215, u216, u217, u218, u219, u220, u221, u222, u223, u224, u225, u226, u227], []⟩ w5 := by
  conv => arg 2; whnf
  have HQ := Lib.hid hQ
  have R0 := Lib.hid r0
  clear hQ r0
  go_wp2_with fail
  go_loopw [10] (fun v10 wr => ∃ n t : Nat, n ≤ 48 ∧ Hid (t = 16 + n) ∧ 16 ≤ t ∧ t ≤ 64 ∧ v10 = .int .i64 (t : Int) ∧ IRow wr W 62 .u32 (padZ 64 (schedN (words16 bs) n)) ∧ Below W w5 wr) (fun v10 _ => 64 - (intOf v10).toNat)
  case atStart => exact ⟨0, 16, by omega, Lib.hid rfl, by omega, by omega, rfl, R0.out, Below.refl _ _⟩
  case round =>
    obtain ⟨n, t, hn, ht2, hg16, hle64, rfl, hrow, hbel⟩ := hrel
    obtain ⟨ws, hws⟩ : ∃ ws, ws = schedN (words16 bs) n := ⟨_, rfl⟩
    have hwl : ws.length = t := by rw [hws, schedN_length, ht2.out]; rfl
    rw [← hws] at hrow
    by_cases h64 : t < 64
    · obtain ⟨i1, hi1⟩ : ∃ i, i = t - 15 := ⟨_, rfl⟩
      obtain ⟨i2, hi2⟩ : ∃ i, i = t - 2 := ⟨_, rfl⟩
      obtain ⟨i3, hi3⟩ : ∃ i, i = t - 7 := ⟨_, rfl⟩
      obtain ⟨i4, hi4⟩ : ∃ i, i = t - 16 := ⟨_, rfl⟩
      have w1 : IntKind.i64.wrap ((t : Int) - 15) = (i1 : Int) := by rw [IntWalk.i64_in _ (by omega)]; omega
      have w2 : IntKind.i64.wrap ((t : Int) - 2) = (i2 : Int) := by rw [IntWalk.i64_in _ (by omega)]; omega
      have w3 : IntKind.i64.wrap ((t : Int) - 7) = (i3 : Int) := by rw [IntWalk.i64_in _ (by omega)]; omega
      have w4 : IntKind.i64.wrap ((t : Int) - 16) = (i4 : Int) := by rw [IntWalk.i64_in _ (by omega)]; omega
      have b1 : (i1 : Int) < 64 := by omega
      have b2 : (i2 : Int) < 64 := by omega
      have b3 : (i3 : Int) < 64 := by omega
      have b4 : (i4 : Int) < 64 := by omega
      have bt : (t : Int) < 64 := by omega
      have n3 : i3 ≠ t := by omega
      have n4 : i4 ≠ t := by omega
      obtain ⟨x, hx⟩ : ∃ x, ws[i1]? = some x := ⟨_, List.getElem?_eq_getElem (by omega)⟩
      obtain ⟨y, hy⟩ : ∃ y, ws[i2]? = some y := ⟨_, List.getElem?_eq_getElem (by omega)⟩
      obtain ⟨u, hu⟩ : ∃ u, ws[i3]? = some u := ⟨_, List.getElem?_eq_getElem (by omega)⟩
      obtain ⟨v, hv⟩ : ∃ v, ws[i4]? = some v := ⟨_, List.getElem?_eq_getElem (by omega)⟩
      have k1 := hrow.cell (padZ_low (n := 64) hx)
      have k2 := hrow.cell (padZ_low (n := 64) hy)
      have k3 := hrow.cell (padZ_low (n := 64) hu)
      have k4 := hrow.cell (padZ_low (n := 64) hv)
      have k5 : wr.cell? ⟨W, t, none⟩ = some (.int .u32 0) := hrow.cell (by have := padZ_next (n := 64) (l := ws) (by omega); rw [hwl] at this; exact this)
      have kf := hrow.free t
      have hnw : nextW ws = IntKind.u32.wrap (IntKind.u32.wrap (IntKind.u32.wrap (small1 y + u) + small0 x) + v) := by
        unfold nextW
        rw [hwl, ← hi1, ← hi2, ← hi3, ← hi4]
        simp only [List.getD_eq_getElem?_getD, hx, hy, hu, hv, Option.getD_some, u32_wrap]
        rfl
      have hsn : schedN (words16 bs) (n + 1) = ws ++ [nextW ws] := by rw [schedN, ← hws]
      have hset := hrow.set t (nextW ws)
      have hpz := padZ_set (n := 64) (l := ws) (z := nextW ws) (by omega)
      rw [hwl] at hpz
      rw [hpz, ← hsn] at hset
      rw [hnw] at hset
      have hux : U32 x := sched_u bs n x (by rw [← hws]; exact List.mem_of_getElem? hx)
      have huy : U32 y := sched_u bs n y (by rw [← hws]; exact List.mem_of_getElem? hy)
      have C1 := Lib.hid (fun W => rrot_any x 25 W hux (by omega))
      have C2 := Lib.hid (fun W => rrot_any x 14 W hux (by omega))
      have C3 := Lib.hid (fun W => rrot_any y 15 W huy (by omega))
      have C4 := Lib.hid (fun W => rrot_any y 13 W huy (by omega))
      have HSET := Lib.hid hset
      have HBEL := Lib.hid hbel
      clear hset hnw hsn hpz hrow hbel hx hy hu hv hws hwl hi1 hi2 hi3 hi4
      go_wp2_with fail
      refine wp_region_held_drew (S := (fun w' => w'.cell? ⟨W, i1, none⟩ = some (.int .u32 x))) (by kernel_rfl) ?_ (fun hHeld => ?_)
      · exact k1
      refine wpAnyH_take (i := 0) (oi := { dst := some 59, op := Go.Op.move (Go.Operand.tmp 10), type := 3, pos := "ref.go:46", after := #[], guard := none }) (v := ?av0) rfl (by kernel_rfl) (by kernel_rfl) (by kernel_rfl) (fun _ _ _ h => hPan _ _ _ _ _ h) (Or.inl ⟨by rfl, ?ay0⟩) (by assumption) ?ar0
      case ay0 => (intro w hSw; (try dsimp only at hSw); go_simp; try (with_reducible rfl))
      case ar0 =>
      try simp only [Act.put, List.setIfInBounds_toArray, List.set_cons_zero, List.set_cons_succ]
      refine wpAnyH_take (i := 1) (oi := { dst := some 60, op := Go.Op.binOp Go.BinOp.sub 3 (Go.Operand.tmp 59) (Go.Operand.const (Go.Value.int Go.IntKind.i64 15)) 3, type := 3, pos := "ref.go:46", after := #[{ on := 0, ground := Go.Ground.data }], guard := none }) (v := ?av1) rfl (by kernel_rfl) (by kernel_rfl) (by kernel_rfl) (fun _ _ _ h => hPan _ _ _ _ _ h) (Or.inl ⟨by rfl, ?ay1⟩) (by assumption) ?ar1
      case ay1 => (intro w hSw; (try dsimp only at hSw); go_simp; try (with_reducible rfl))
      case ar1 =>
      try simp only [Act.put, List.setIfInBounds_toArray, List.set_cons_zero, List.set_cons_succ]
      refine wpAnyH_take (i := 2) (oi := { dst := some 61, op := Go.Op.indexAddr 62 (Go.Operand.tmp 7) (Go.Operand.tmp 60), type := 0, pos := "ref.go:46", after := #[{ on := 1, ground := Go.Ground.data }], guard := none }) (v := ?av2) rfl (by kernel_rfl) (by kernel_rfl) (by kernel_rfl) (fun _ _ _ h => hPan _ _ _ _ _ h) (Or.inl ⟨by rfl, ?ay2⟩) (by assumption) ?ar2
      case ay2 => (intro w hSw; (try dsimp only at hSw); go_simp; try (with_reducible rfl))
      case ar2 =>
      try simp only [Act.put, List.setIfInBounds_toArray, List.set_cons_zero, List.set_cons_succ]
      refine wpAnyH_take (i := 3) (oi := { dst := some 62, op := Go.Op.load 61 (Go.Operand.tmp 61), type := 61, pos := "ref.go:46", after := #[{ on := 2, ground := Go.Ground.data }], guard := none }) (v := ?av3) rfl (by kernel_rfl) (by kernel_rfl) (by kernel_rfl) (fun _ _ _ h => hPan _ _ _ _ _ h) (Or.inl ⟨by rfl, ?ay3⟩) (by assumption) ?ar3
      case ay3 => (intro w hSw; (try dsimp only at hSw); go_simp; try (with_reducible rfl))
      case ar3 =>
      try simp only [Act.put, List.setIfInBounds_toArray, List.set_cons_zero, List.set_cons_succ]
      refine wpAnyH_take (i := 5) (oi := { dst := some 64, op := Go.Op.move (Go.Operand.tmp 10), type := 3, pos := "ref.go:46", after := #[], guard := none }) (v := ?av5) rfl (by kernel_rfl) (by kernel_rfl) (by kernel_rfl) (fun _ _ _ h => hPan _ _ _ _ _ h) (Or.inl ⟨by rfl, ?ay5⟩) (by assumption) ?ar5
      case ay5 => (intro w hSw; (try dsimp only at hSw); go_simp; try (with_reducible rfl))
      case ar5 =>
      try simp only [Act.put, List.setIfInBounds_toArray, List.set_cons_zero, List.set_cons_succ]
      refine wpAnyH_take (i := 6) (oi := { dst := some 65, op := Go.Op.binOp Go.BinOp.sub 3 (Go.Operand.tmp 64) (Go.Operand.const (Go.Value.int Go.IntKind.i64 15)) 3, type := 3, pos := "ref.go:46", after := #[{ on := 5, ground := Go.Ground.data }], guard := none }) (v := ?av6) rfl (by kernel_rfl) (by kernel_rfl) (by kernel_rfl) (fun _ _ _ h => hPan _ _ _ _ _ h) (Or.inl ⟨by rfl, ?ay6⟩) (by assumption) ?ar6
      case ay6 => (intro w hSw; (try dsimp only at hSw); go_simp; try (with_reducible rfl))
      case ar6 =>
      try simp only [Act.put, List.setIfInBounds_toArray, List.set_cons_zero, List.set_cons_succ]
      refine wpAnyH_take (i := 7) (oi := { dst := some 66, op := Go.Op.indexAddr 62 (Go.Operand.tmp 7) (Go.Operand.tmp 65), type := 0, pos := "ref.go:46", after := #[{ on := 6, ground := Go.Ground.data }], guard := none }) (v := ?av7) rfl (by kernel_rfl) (by kernel_rfl) (by kernel_rfl) (fun _ _ _ h => hPan _ _ _ _ _ h) (Or.inl ⟨by rfl, ?ay7⟩) (by assumption) ?ar7
      case ay7 => (intro w hSw; (try dsimp only at hSw); go_simp; try (with_reducible rfl))
      case ar7 =>
      try simp only [Act.put, List.setIfInBounds_toArray, List.set_cons_zero, List.set_cons_succ]
      refine wpAnyH_take (i := 8) (oi := { dst := some 67, op := Go.Op.load 61 (Go.Operand.tmp 66), type := 61, pos := "ref.go:46", after := #[{ on := 7, ground := Go.Ground.data }], guard := none }) (v := ?av8) rfl (by kernel_rfl) (by kernel_rfl) (by kernel_rfl) (fun _ _ _ h => hPan _ _ _ _ _ h) (Or.inl ⟨by rfl, ?ay8⟩) (by assumption) ?ar8
      case ay8 => (intro w hSw; (try dsimp only at hSw); go_simp; try (with_reducible rfl))
      case ar8 =>
      try simp only [Act.put, List.setIfInBounds_toArray, List.set_cons_zero, List.set_cons_succ]
      refine wpAnyH_take (i := 11) (oi := { dst := some 70, op := Go.Op.move (Go.Operand.tmp 10), type := 3, pos := "ref.go:46", after := #[], guard := none }) (v := ?av11) rfl (by kernel_rfl) (by kernel_rfl) (by kernel_rfl) (fun _ _ _ h => hPan _ _ _ _ _ h) (Or.inl ⟨by rfl, ?ay11⟩) (by assumption) ?ar11
      case ay11 => (intro w hSw; (try dsimp only at hSw); go_simp; try (with_reducible rfl))
      case ar11 =>
      try simp only [Act.put, List.setIfInBounds_toArray, List.set_cons_zero, List.set_cons_succ]
      refine wpAnyH_take (i := 12) (oi := { dst := some 71, op := Go.Op.binOp Go.BinOp.sub 3 (Go.Operand.tmp 70) (Go.Operand.const (Go.Value.int Go.IntKind.i64 15)) 3, type := 3, pos := "ref.go:46", after := #[{ on := 11, ground := Go.Ground.data }], guard := none }) (v := ?av12) rfl (by kernel_rfl) (by kernel_rfl) (by kernel_rfl) (fun _ _ _ h => hPan _ _ _ _ _ h) (Or.inl ⟨by rfl, ?ay12⟩) (by assumption) ?ar12
      case ay12 => (intro w hSw; (try dsimp only at hSw); go_simp; try (with_reducible rfl))
      case ar12 =>
      try simp only [Act.put, List.setIfInBounds_toArray, List.set_cons_zero, List.set_cons_succ]
      refine wpAnyH_take (i := 13) (oi := { dst := some 72, op := Go.Op.indexAddr 62 (Go.Operand.tmp 7) (Go.Operand.tmp 71), type := 0, pos := "ref.go:46", after := #[{ on := 12, ground := Go.Ground.data }], guard := none }) (v := ?av13) rfl (by kernel_rfl) (by kernel_rfl) (by kernel_rfl) (fun _ _ _ h => hPan _ _ _ _ _ h) (Or.inl ⟨by rfl, ?ay13⟩) (by assumption) ?ar13
      case ay13 => (intro w hSw; (try dsimp only at hSw); go_simp; try (with_reducible rfl))
      case ar13 =>
      try simp only [Act.put, List.setIfInBounds_toArray, List.set_cons_zero, List.set_cons_succ]
      refine wpAnyH_take (i := 14) (oi := { dst := some 73, op := Go.Op.load 61 (Go.Operand.tmp 72), type := 61, pos := "ref.go:46", after := #[{ on := 13, ground := Go.Ground.data }], guard := none }) (v := ?av14) rfl (by kernel_rfl) (by kernel_rfl) (by kernel_rfl) (fun _ _ _ h => hPan _ _ _ _ _ h) (Or.inl ⟨by rfl, ?ay14⟩) (by assumption) ?ar14
      case ay14 => (intro w hSw; (try dsimp only at hSw); go_simp; try (with_reducible rfl))
      case ar14 =>
      try simp only [Act.put, List.setIfInBounds_toArray, List.set_cons_zero, List.set_cons_succ]
      refine wpAnyH_take (i := 15) (oi := { dst := some 74, op := Go.Op.binOp Go.BinOp.shr 61 (Go.Operand.tmp 73) (Go.Operand.const (Go.Value.int Go.IntKind.u64 3)) 51, type := 61, pos := "ref.go:46", after := #[{ on := 14, ground := Go.Ground.data }], guard := none }) (v := ?av15) rfl (by kernel_rfl) (by kernel_rfl) (by kernel_rfl) (fun _ _ _ h => hPan _ _ _ _ _ h) (Or.inl ⟨by rfl, ?ay15⟩) (by assumption) ?ar15
      case ay15 => (intro w hSw; (try dsimp only at hSw); go_simp; try (with_reducible rfl))
      case ar15 =>
      try simp only [Act.put, List.setIfInBounds_toArray, List.set_cons_zero, List.set_cons_succ]
      refine wpAnyH_ready (rs := [4]) (by kernel_rfl) (by simp) ?_
      refine AllReadyH.cons (o := { dst := some 63, op := Go.Op.call { callee := Go.Callee.value (Go.Operand.func 39), args := #[Go.Operand.tmp 62, Go.Operand.const (Go.Value.int Go.IntKind.i64 25)], argTypes := #[61, 3] }, type := 61, pos := "ref.go:46", after := #[{ on := 3, ground := Go.Ground.data }], guard := none }) rfl (fun K hK => ?_) (AllReadyH.nil)
      go_simp
      refine (C1.out _).mono ?_
      rintro e w6 ⟨rfl, rfl⟩
      go_simp
      refine hK.out _ _ ?_ (fun hHeld => ?_)
      · exact hHeld
      clear hK K
      try simp only [Act.put, List.setIfInBounds_toArray, List.set_cons_zero, List.set_cons_succ]
      refine wpAnyH_ready (rs := [9]) (by kernel_rfl) (by simp) ?_
      refine AllReadyH.cons (o := { dst := some 68, op := Go.Op.call { callee := Go.Callee.value (Go.Operand.func 39), args := #[Go.Operand.tmp 67, Go.Operand.const (Go.Value.int Go.IntKind.i64 14)], argTypes := #[61, 3] }, type := 61, pos := "ref.go:46", after := #[{ on := 8, ground := Go.Ground.data }, { on := 4, ground := Go.Ground.chain }], guard := none }) rfl (fun K hK => ?_) (AllReadyH.nil)
      go_simp
      refine (C2.out _).mono ?_
      rintro e w6 ⟨rfl, rfl⟩
      go_simp
      refine hK.out _ _ ?_ (fun hHeld => ?_)
      · exact hHeld
      clear hK K
      try simp only [Act.put, List.setIfInBounds_toArray, List.set_cons_zero, List.set_cons_succ]
      refine wpAnyH_take (i := 10) (oi := { dst := some 69, op := Go.Op.binOp Go.BinOp.xor 61 (Go.Operand.tmp 63) (Go.Operand.tmp 68) 61, type := 61, pos := "ref.go:46", after := #[{ on := 4, ground := Go.Ground.data }, { on := 9, ground := Go.Ground.data }], guard := none }) (v := ?a_4_9v10) rfl (by kernel_rfl) (by kernel_rfl) (by kernel_rfl) (fun _ _ _ h => hPan _ _ _ _ _ h) (Or.inl ⟨by rfl, ?a_4_9y10⟩) (by assumption) ?a_4_9r10
      case a_4_9y10 => (intro w hSw; (try dsimp only at hSw); go_simp; try (with_reducible rfl))
      case a_4_9r10 =>
      try simp only [Act.put, List.setIfInBounds_toArray, List.set_cons_zero, List.set_cons_succ]
      refine wpAnyH_take (i := 16) (oi := { dst := some 75, op := Go.Op.binOp Go.BinOp.xor 61 (Go.Operand.tmp 69) (Go.Operand.tmp 74) 61, type := 61, pos := "ref.go:46", after := #[{ on := 10, ground := Go.Ground.data }, { on := 15, ground := Go.Ground.data }], guard := none }) (v := ?a_4_9v16) rfl (by kernel_rfl) (by kernel_rfl) (by kernel_rfl) (fun _ _ _ h => hPan _ _ _ _ _ h) (Or.inl ⟨by rfl, ?a_4_9y16⟩) (by assumption) ?a_4_9r16
      case a_4_9y16 => (intro w hSw; (try dsimp only at hSw); go_simp; try (with_reducible rfl))
      case a_4_9r16 =>
      try simp only [Act.put, List.setIfInBounds_toArray, List.set_cons_zero, List.set_cons_succ]
      refine wpAnyH_take (i := 17) (oi := { dst := some 11, op := Go.Op.assign (Go.Operand.tmp 75), type := 61, pos := "ref.go:46", after := #[{ on := 16, ground := Go.Ground.data }, { on := 9, ground := Go.Ground.chain }, { on := 0, ground := Go.Ground.phase }, { on := 1, ground := Go.Ground.phase }, { on := 2, ground := Go.Ground.phase }, { on := 3, ground := Go.Ground.phase }, { on := 4, ground := Go.Ground.phase }, { on := 5, ground := Go.Ground.phase }, { on := 6, ground := Go.Ground.phase }, { on := 7, ground := Go.Ground.phase }, { on := 8, ground := Go.Ground.phase }, { on := 9, ground := Go.Ground.phase }, { on := 10, ground := Go.Ground.phase }, { on := 11, ground := Go.Ground.phase }, { on := 12, ground := Go.Ground.phase }, { on := 13, ground := Go.Ground.phase }, { on := 14, ground := Go.Ground.phase }, { on := 15, ground := Go.Ground.phase }, { on := 16, ground := Go.Ground.phase }], guard := none }) (v := ?a_4_9v17) rfl (by kernel_rfl) (by kernel_rfl) (by kernel_rfl) (fun _ _ _ h => hPan _ _ _ _ _ h) (Or.inl ⟨by rfl, ?a_4_9y17⟩) (by assumption) ?a_4_9r17
      case a_4_9y17 => (intro w hSw; (try dsimp only at hSw); go_simp; try (with_reducible rfl))
      case a_4_9r17 =>
      try simp only [Act.put, List.setIfInBounds_toArray, List.set_cons_zero, List.set_cons_succ]
      refine wpAnyH_done (by kernel_rfl) ?_ _
      obtain ⟨s0, hs0⟩ : ∃ z, z = small0 x := ⟨_, rfl⟩
      have es0 : bits .xor .u32 (bits .xor .u32 (rot32 25 x) (rot32 14 x)) (x / 8) = s0 := hs0.symm
      rw [es0]
      rw [← hs0] at HSET
      clear hs0 es0
      go_wp2_with fail
      refine wp_region_held_drew (S := (fun w' => w'.cell? ⟨W, i2, none⟩ = some (.int .u32 y))) (by kernel_rfl) ?_ (fun hHeld => ?_)
      · exact k2
      refine wpAnyH_take (i := 0) (oi := { dst := some 76, op := Go.Op.move (Go.Operand.tmp 10), type := 3, pos := "ref.go:47", after := #[], guard := none }) (v := ?bv0) rfl (by kernel_rfl) (by kernel_rfl) (by kernel_rfl) (fun _ _ _ h => hPan _ _ _ _ _ h) (Or.inl ⟨by rfl, ?by0⟩) (by assumption) ?br0
      case by0 => (intro w hSw; (try dsimp only at hSw); go_simp; try (with_reducible rfl))
      case br0 =>
      try simp only [Act.put, List.setIfInBounds_toArray, List.set_cons_zero, List.set_cons_succ]
      refine wpAnyH_take (i := 1) (oi := { dst := some 77, op := Go.Op.binOp Go.BinOp.sub 3 (Go.Operand.tmp 76) (Go.Operand.const (Go.Value.int Go.IntKind.i64 2)) 3, type := 3, pos := "ref.go:47", after := #[{ on := 0, ground := Go.Ground.data }], guard := none }) (v := ?bv1) rfl (by kernel_rfl) (by kernel_rfl) (by kernel_rfl) (fun _ _ _ h => hPan _ _ _ _ _ h) (Or.inl ⟨by rfl, ?by1⟩) (by assumption) ?br1
      case by1 => (intro w hSw; (try dsimp only at hSw); go_simp; try (with_reducible rfl))
      case br1 =>
      try simp only [Act.put, List.setIfInBounds_toArray, List.set_cons_zero, List.set_cons_succ]
      refine wpAnyH_take (i := 2) (oi := { dst := some 78, op := Go.Op.indexAddr 62 (Go.Operand.tmp 7) (Go.Operand.tmp 77), type := 0, pos := "ref.go:47", after := #[{ on := 1, ground := Go.Ground.data }], guard := none }) (v := ?bv2) rfl (by kernel_rfl) (by kernel_rfl) (by kernel_rfl) (fun _ _ _ h => hPan _ _ _ _ _ h) (Or.inl ⟨by rfl, ?by2⟩) (by assumption) ?br2
      case by2 => (intro w hSw; (try dsimp only at hSw); go_simp; try (with_reducible rfl))
      case br2 =>
      try simp only [Act.put, List.setIfInBounds_toArray, List.set_cons_zero, List.set_cons_succ]
      refine wpAnyH_take (i := 3) (oi := { dst := some 79, op := Go.Op.load 61 (Go.Operand.tmp 78), type := 61, pos := "ref.go:47", after := #[{ on := 2, ground := Go.Ground.data }], guard := none }) (v := ?bv3) rfl (by kernel_rfl) (by kernel_rfl) (by kernel_rfl) (fun _ _ _ h => hPan _ _ _ _ _ h) (Or.inl ⟨by rfl, ?by3⟩) (by assumption) ?br3
      case by3 => (intro w hSw; (try dsimp only at hSw); go_simp; try (with_reducible rfl))
      case br3 =>
      try simp only [Act.put, List.setIfInBounds_toArray, List.set_cons_zero, List.set_cons_succ]
      refine wpAnyH_take (i := 5) (oi := { dst := some 81, op := Go.Op.move (Go.Operand.tmp 10), type := 3, pos := "ref.go:47", after := #[], guard := none }) (v := ?bv5) rfl (by kernel_rfl) (by kernel_rfl) (by kernel_rfl) (fun _ _ _ h => hPan _ _ _ _ _ h) (Or.inl ⟨by rfl, ?by5⟩) (by assumption) ?br5
      case by5 => (intro w hSw; (try dsimp only at hSw); go_simp; try (with_reducible rfl))
      case br5 =>
      try simp only [Act.put, List.setIfInBounds_toArray, List.set_cons_zero, List.set_cons_succ]
      refine wpAnyH_take (i := 6) (oi := { dst := some 82, op := Go.Op.binOp Go.BinOp.sub 3 (Go.Operand.tmp 81) (Go.Operand.const (Go.Value.int Go.IntKind.i64 2)) 3, type := 3, pos := "ref.go:47", after := #[{ on := 5, ground := Go.Ground.data }], guard := none }) (v := ?bv6) rfl (by kernel_rfl) (by kernel_rfl) (by kernel_rfl) (fun _ _ _ h => hPan _ _ _ _ _ h) (Or.inl ⟨by rfl, ?by6⟩) (by assumption) ?br6
      case by6 => (intro w hSw; (try dsimp only at hSw); go_simp; try (with_reducible rfl))
      case br6 =>
      try simp only [Act.put, List.setIfInBounds_toArray, List.set_cons_zero, List.set_cons_succ]
      refine wpAnyH_take (i := 7) (oi := { dst := some 83, op := Go.Op.indexAddr 62 (Go.Operand.tmp 7) (Go.Operand.tmp 82), type := 0, pos := "ref.go:47", after := #[{ on := 6, ground := Go.Ground.data }], guard := none }) (v := ?bv7) rfl (by kernel_rfl) (by kernel_rfl) (by kernel_rfl) (fun _ _ _ h => hPan _ _ _ _ _ h) (Or.inl ⟨by rfl, ?by7⟩) (by assumption) ?br7
      case by7 => (intro w hSw; (try dsimp only at hSw); go_simp; try (with_reducible rfl))
      case br7 =>
      try simp only [Act.put, List.setIfInBounds_toArray, List.set_cons_zero, List.set_cons_succ]
      refine wpAnyH_take (i := 8) (oi := { dst := some 84, op := Go.Op.load 61 (Go.Operand.tmp 83), type := 61, pos := "ref.go:47", after := #[{ on := 7, ground := Go.Ground.data }], guard := none }) (v := ?bv8) rfl (by kernel_rfl) (by kernel_rfl) (by kernel_rfl) (fun _ _ _ h => hPan _ _ _ _ _ h) (Or.inl ⟨by rfl, ?by8⟩) (by assumption) ?br8
      case by8 => (intro w hSw; (try dsimp only at hSw); go_simp; try (with_reducible rfl))
      case br8 =>
      try simp only [Act.put, List.setIfInBounds_toArray, List.set_cons_zero, List.set_cons_succ]
      refine wpAnyH_take (i := 11) (oi := { dst := some 87, op := Go.Op.move (Go.Operand.tmp 10), type := 3, pos := "ref.go:47", after := #[], guard := none }) (v := ?bv11) rfl (by kernel_rfl) (by kernel_rfl) (by kernel_rfl) (fun _ _ _ h => hPan _ _ _ _ _ h) (Or.inl ⟨by rfl, ?by11⟩) (by assumption) ?br11
      case by11 => (intro w hSw; (try dsimp only at hSw); go_simp; try (with_reducible rfl))
      case br11 =>
      try simp only [Act.put, List.setIfInBounds_toArray, List.set_cons_zero, List.set_cons_succ]
      refine wpAnyH_take (i := 12) (oi := { dst := some 88, op := Go.Op.binOp Go.BinOp.sub 3 (Go.Operand.tmp 87) (Go.Operand.const (Go.Value.int Go.IntKind.i64 2)) 3, type := 3, pos := "ref.go:47", after := #[{ on := 11, ground := Go.Ground.data }], guard := none }) (v := ?bv12) rfl (by kernel_rfl) (by kernel_rfl) (by kernel_rfl) (fun _ _ _ h => hPan _ _ _ _ _ h) (Or.inl ⟨by rfl, ?by12⟩) (by assumption) ?br12
      case by12 => (intro w hSw; (try dsimp only at hSw); go_simp; try (with_reducible rfl))
      case br12 =>
      try simp only [Act.put, List.setIfInBounds_toArray, List.set_cons_zero, List.set_cons_succ]
      refine wpAnyH_take (i := 13) (oi := { dst := some 89, op := Go.Op.indexAddr 62 (Go.Operand.tmp 7) (Go.Operand.tmp 88), type := 0, pos := "ref.go:47", after := #[{ on := 12, ground := Go.Ground.data }], guard := none }) (v := ?bv13) rfl (by kernel_rfl) (by kernel_rfl) (by kernel_rfl) (fun _ _ _ h => hPan _ _ _ _ _ h) (Or.inl ⟨by rfl, ?by13⟩) (by assumption) ?br13
      case by13 => (intro w hSw; (try dsimp only at hSw); go_simp; try (with_reducible rfl))
      case br13 =>
      try simp only [Act.put, List.setIfInBounds_toArray, List.set_cons_zero, List.set_cons_succ]
      refine wpAnyH_take (i := 14) (oi := { dst := some 90, op := Go.Op.load 61 (Go.Operand.tmp 89), type := 61, pos := "ref.go:47", after := #[{ on := 13, ground := Go.Ground.data }], guard := none }) (v := ?bv14) rfl (by kernel_rfl) (by kernel_rfl) (by kernel_rfl) (fun _ _ _ h => hPan _ _ _ _ _ h) (Or.inl ⟨by rfl, ?by14⟩) (by assumption) ?br14
      case by14 => (intro w hSw; (try dsimp only at hSw); go_simp; try (with_reducible rfl))
      case br14 =>
      try simp only [Act.put, List.setIfInBounds_toArray, List.set_cons_zero, List.set_cons_succ]
      refine wpAnyH_take (i := 15) (oi := { dst := some 91, op := Go.Op.binOp Go.BinOp.shr 61 (Go.Operand.tmp 90) (Go.Operand.const (Go.Value.int Go.IntKind.u64 10)) 51, type := 61, pos := "ref.go:47", after := #[{ on := 14, ground := Go.Ground.data }], guard := none }) (v := ?bv15) rfl (by kernel_rfl) (by kernel_rfl) (by kernel_rfl) (fun _ _ _ h => hPan _ _ _ _ _ h) (Or.inl ⟨by rfl, ?by15⟩) (by assumption) ?br15
      case by15 => (intro w hSw; (try dsimp only at hSw); go_simp; try (with_reducible rfl))
      case br15 =>
      try simp only [Act.put, List.setIfInBounds_toArray, List.set_cons_zero, List.set_cons_succ]
      refine wpAnyH_ready (rs := [4]) (by kernel_rfl) (by simp) ?_
      refine AllReadyH.cons (o := { dst := some 80, op := Go.Op.call { callee := Go.Callee.value (Go.Operand.func 39), args := #[Go.Operand.tmp 79, Go.Operand.const (Go.Value.int Go.IntKind.i64 15)], argTypes := #[61, 3] }, type := 61, pos := "ref.go:47", after := #[{ on := 3, ground := Go.Ground.data }], guard := none }) rfl (fun K hK => ?_) (AllReadyH.nil)
      go_simp
      refine (C3.out _).mono ?_
      rintro e w6 ⟨rfl, rfl⟩
      go_simp
      refine hK.out _ _ ?_ (fun hHeld => ?_)
      · exact hHeld
      clear hK K
      try simp only [Act.put, List.setIfInBounds_toArray, List.set_cons_zero, List.set_cons_succ]
      refine wpAnyH_ready (rs := [9]) (by kernel_rfl) (by simp) ?_
      refine AllReadyH.cons (o := { dst := some 85, op := Go.Op.call { callee := Go.Callee.value (Go.Operand.func 39), args := #[Go.Operand.tmp 84, Go.Operand.const (Go.Value.int Go.IntKind.i64 13)], argTypes := #[61, 3] }, type := 61, pos := "ref.go:47", after := #[{ on := 8, ground := Go.Ground.data }, { on := 4, ground := Go.Ground.chain }], guard := none }) rfl (fun K hK => ?_) (AllReadyH.nil)
      go_simp
      refine (C4.out _).mono ?_
      rintro e w6 ⟨rfl, rfl⟩
      go_simp
      refine hK.out _ _ ?_ (fun hHeld => ?_)
      · exact hHeld
      clear hK K
      try simp only [Act.put, List.setIfInBounds_toArray, List.set_cons_zero, List.set_cons_succ]
      refine wpAnyH_take (i := 10) (oi := { dst := some 86, op := Go.Op.binOp Go.BinOp.xor 61 (Go.Operand.tmp 80) (Go.Operand.tmp 85) 61, type := 61, pos := "ref.go:47", after := #[{ on := 4, ground := Go.Ground.data }, { on := 9, ground := Go.Ground.data }], guard := none }) (v := ?b_4_9v10) rfl (by kernel_rfl) (by kernel_rfl) (by kernel_rfl) (fun _ _ _ h => hPan _ _ _ _ _ h) (Or.inl ⟨by rfl, ?b_4_9y10⟩) (by assumption) ?b_4_9r10
      case b_4_9y10 => (intro w hSw; (try dsimp only at hSw); go_simp; try (with_reducible rfl))
      case b_4_9r10 =>
      try simp only [Act.put, List.setIfInBounds_toArray, List.set_cons_zero, List.set_cons_succ]
      refine wpAnyH_take (i := 16) (oi := { dst := some 92, op := Go.Op.binOp Go.BinOp.xor 61 (Go.Operand.tmp 86) (Go.Operand.tmp 91) 61, type := 61, pos := "ref.go:47", after := #[{ on := 10, ground := Go.Ground.data }, { on := 15, ground := Go.Ground.data }], guard := none }) (v := ?b_4_9v16) rfl (by kernel_rfl) (by kernel_rfl) (by kernel_rfl) (fun _ _ _ h => hPan _ _ _ _ _ h) (Or.inl ⟨by rfl, ?b_4_9y16⟩) (by assumption) ?b_4_9r16
      case b_4_9y16 => (intro w hSw; (try dsimp only at hSw); go_simp; try (with_reducible rfl))
      case b_4_9r16 =>
      try simp only [Act.put, List.setIfInBounds_toArray, List.set_cons_zero, List.set_cons_succ]
      refine wpAnyH_take (i := 17) (oi := { dst := some 12, op := Go.Op.assign (Go.Operand.tmp 92), type := 61, pos := "ref.go:47", after := #[{ on := 16, ground := Go.Ground.data }, { on := 9, ground := Go.Ground.chain }, { on := 0, ground := Go.Ground.phase }, { on := 1, ground := Go.Ground.phase }, { on := 2, ground := Go.Ground.phase }, { on := 3, ground := Go.Ground.phase }, { on := 4, ground := Go.Ground.phase }, { on := 5, ground := Go.Ground.phase }, { on := 6, ground := Go.Ground.phase }, { on := 7, ground := Go.Ground.phase }, { on := 8, ground := Go.Ground.phase }, { on := 9, ground := Go.Ground.phase }, { on := 10, ground := Go.Ground.phase }, { on := 11, ground := Go.Ground.phase }, { on := 12, ground := Go.Ground.phase }, { on := 13, ground := Go.Ground.phase }, { on := 14, ground := Go.Ground.phase }, { on := 15, ground := Go.Ground.phase }, { on := 16, ground := Go.Ground.phase }], guard := none }) (v := ?b_4_9v17) rfl (by kernel_rfl) (by kernel_rfl) (by kernel_rfl) (fun _ _ _ h => hPan _ _ _ _ _ h) (Or.inl ⟨by rfl, ?b_4_9y17⟩) (by assumption) ?b_4_9r17
      case b_4_9y17 => (intro w hSw; (try dsimp only at hSw); go_simp; try (with_reducible rfl))
      case b_4_9r17 =>
      try simp only [Act.put, List.setIfInBounds_toArray, List.set_cons_zero, List.set_cons_succ]
      refine wpAnyH_done (by kernel_rfl) ?_ _
      obtain ⟨s1, hs1⟩ : ∃ z, z = small1 y := ⟨_, rfl⟩
      have es1 : bits .xor .u32 (bits .xor .u32 (rot32 15 y) (rot32 13 y)) (y / 1024) = s1 := hs1.symm
      rw [es1]
      rw [← hs1] at HSET
      clear hs1 es1
      go_wp2_with fail
      refine wp_region_held_drew (S := (fun w' => w'.cell? ⟨W, i3, none⟩ = some (.int .u32 u) ∧ w'.cell? ⟨W, i4, none⟩ = some (.int .u32 v))) (by kernel_rfl) ?_ (fun hHeld => ?_)
      · exact ⟨k3, k4⟩
      refine wpAnyH_take (i := 0) (oi := { dst := some 93, op := Go.Op.move (Go.Operand.tmp 10), type := 3, pos := "ref.go:48", after := #[], guard := none }) (v := ?cv0) rfl (by kernel_rfl) (by kernel_rfl) (by kernel_rfl) (fun _ _ _ h => hPan _ _ _ _ _ h) (Or.inl ⟨by rfl, ?cy0⟩) (by assumption) ?cr0
      case cy0 => (intro w hSw; (try dsimp only at hSw); go_simp; try (with_reducible rfl))
      case cr0 =>
      try simp only [Act.put, List.setIfInBounds_toArray, List.set_cons_zero, List.set_cons_succ]
      refine wpAnyH_take (i := 1) (oi := { dst := some 94, op := Go.Op.move (Go.Operand.tmp 12), type := 61, pos := "ref.go:48", after := #[], guard := none }) (v := ?cv1) rfl (by kernel_rfl) (by kernel_rfl) (by kernel_rfl) (fun _ _ _ h => hPan _ _ _ _ _ h) (Or.inl ⟨by rfl, ?cy1⟩) (by assumption) ?cr1
      case cy1 => (intro w hSw; (try dsimp only at hSw); go_simp; try (with_reducible rfl))
      case cr1 =>
      try simp only [Act.put, List.setIfInBounds_toArray, List.set_cons_zero, List.set_cons_succ]
      refine wpAnyH_take (i := 2) (oi := { dst := some 95, op := Go.Op.move (Go.Operand.tmp 10), type := 3, pos := "ref.go:48", after := #[], guard := none }) (v := ?cv2) rfl (by kernel_rfl) (by kernel_rfl) (by kernel_rfl) (fun _ _ _ h => hPan _ _ _ _ _ h) (Or.inl ⟨by rfl, ?cy2⟩) (by assumption) ?cr2
      case cy2 => (intro w hSw; (try dsimp only at hSw); go_simp; try (with_reducible rfl))
      case cr2 =>
      try simp only [Act.put, List.setIfInBounds_toArray, List.set_cons_zero, List.set_cons_succ]
      refine wpAnyH_take (i := 3) (oi := { dst := some 96, op := Go.Op.binOp Go.BinOp.sub 3 (Go.Operand.tmp 95) (Go.Operand.const (Go.Value.int Go.IntKind.i64 7)) 3, type := 3, pos := "ref.go:48", after := #[{ on := 2, ground := Go.Ground.data }], guard := none }) (v := ?cv3) rfl (by kernel_rfl) (by kernel_rfl) (by kernel_rfl) (fun _ _ _ h => hPan _ _ _ _ _ h) (Or.inl ⟨by rfl, ?cy3⟩) (by assumption) ?cr3
      case cy3 => (intro w hSw; (try dsimp only at hSw); go_simp; try (with_reducible rfl))
      case cr3 =>
      try simp only [Act.put, List.setIfInBounds_toArray, List.set_cons_zero, List.set_cons_succ]
      refine wpAnyH_take (i := 4) (oi := { dst := some 97, op := Go.Op.indexAddr 62 (Go.Operand.tmp 7) (Go.Operand.tmp 96), type := 0, pos := "ref.go:48", after := #[{ on := 3, ground := Go.Ground.data }], guard := none }) (v := ?cv4) rfl (by kernel_rfl) (by kernel_rfl) (by kernel_rfl) (fun _ _ _ h => hPan _ _ _ _ _ h) (Or.inl ⟨by rfl, ?cy4⟩) (by assumption) ?cr4
      case cy4 => (intro w hSw; (try dsimp only at hSw); go_simp; try (with_reducible rfl))
      case cr4 =>
      try simp only [Act.put, List.setIfInBounds_toArray, List.set_cons_zero, List.set_cons_succ]
      refine wpAnyH_take (i := 5) (oi := { dst := some 98, op := Go.Op.load 61 (Go.Operand.tmp 97), type := 61, pos := "ref.go:48", after := #[{ on := 4, ground := Go.Ground.data }], guard := none }) (v := ?cv5) rfl (by kernel_rfl) (by kernel_rfl) (by kernel_rfl) (fun _ _ _ h => hPan _ _ _ _ _ h) (Or.inl ⟨by rfl, ?cy5⟩) (by assumption) ?cr5
      case cy5 => (intro w hSw; (try dsimp only at hSw); go_simp; try (with_reducible rfl))
      case cr5 =>
      try simp only [Act.put, List.setIfInBounds_toArray, List.set_cons_zero, List.set_cons_succ]
      refine wpAnyH_take (i := 6) (oi := { dst := some 99, op := Go.Op.binOp Go.BinOp.add 61 (Go.Operand.tmp 94) (Go.Operand.tmp 98) 61, type := 61, pos := "ref.go:48", after := #[{ on := 1, ground := Go.Ground.data }, { on := 5, ground := Go.Ground.data }], guard := none }) (v := ?cv6) rfl (by kernel_rfl) (by kernel_rfl) (by kernel_rfl) (fun _ _ _ h => hPan _ _ _ _ _ h) (Or.inl ⟨by rfl, ?cy6⟩) (by assumption) ?cr6
      case cy6 => (intro w hSw; (try dsimp only at hSw); go_simp; try (with_reducible rfl))
      case cr6 =>
      try simp only [Act.put, List.setIfInBounds_toArray, List.set_cons_zero, List.set_cons_succ]
      refine wpAnyH_take (i := 7) (oi := { dst := some 100, op := Go.Op.move (Go.Operand.tmp 11), type := 61, pos := "ref.go:48", after := #[], guard := none }) (v := ?cv7) rfl (by kernel_rfl) (by kernel_rfl) (by kernel_rfl) (fun _ _ _ h => hPan _ _ _ _ _ h) (Or.inl ⟨by rfl, ?cy7⟩) (by assumption) ?cr7
      case cy7 => (intro w hSw; (try dsimp only at hSw); go_simp; try (with_reducible rfl))
      case cr7 =>
      try simp only [Act.put, List.setIfInBounds_toArray, List.set_cons_zero, List.set_cons_succ]
      refine wpAnyH_take (i := 8) (oi := { dst := some 101, op := Go.Op.binOp Go.BinOp.add 61 (Go.Operand.tmp 99) (Go.Operand.tmp 100) 61, type := 61, pos := "ref.go:48", after := #[{ on := 6, ground := Go.Ground.data }, { on := 7, ground := Go.Ground.data }], guard := none }) (v := ?cv8) rfl (by kernel_rfl) (by kernel_rfl) (by kernel_rfl) (fun _ _ _ h => hPan _ _ _ _ _ h) (Or.inl ⟨by rfl, ?cy8⟩) (by assumption) ?cr8
      case cy8 => (intro w hSw; (try dsimp only at hSw); go_simp; try (with_reducible rfl))
      case cr8 =>
      try simp only [Act.put, List.setIfInBounds_toArray, List.set_cons_zero, List.set_cons_succ]
      refine wpAnyH_take (i := 9) (oi := { dst := some 102, op := Go.Op.move (Go.Operand.tmp 10), type := 3, pos := "ref.go:48", after := #[], guard := none }) (v := ?cv9) rfl (by kernel_rfl) (by kernel_rfl) (by kernel_rfl) (fun _ _ _ h => hPan _ _ _ _ _ h) (Or.inl ⟨by rfl, ?cy9⟩) (by assumption) ?cr9
      case cy9 => (intro w hSw; (try dsimp only at hSw); go_simp; try (with_reducible rfl))
      case cr9 =>
      try simp only [Act.put, List.setIfInBounds_toArray, List.set_cons_zero, List.set_cons_succ]
      refine wpAnyH_take (i := 10) (oi := { dst := some 103, op := Go.Op.binOp Go.BinOp.sub 3 (Go.Operand.tmp 102) (Go.Operand.const (Go.Value.int Go.IntKind.i64 16)) 3, type := 3, pos := "ref.go:48", after := #[{ on := 9, ground := Go.Ground.data }], guard := none }) (v := ?cv10) rfl (by kernel_rfl) (by kernel_rfl) (by kernel_rfl) (fun _ _ _ h => hPan _ _ _ _ _ h) (Or.inl ⟨by rfl, ?cy10⟩) (by assumption) ?cr10
      case cy10 => (intro w hSw; (try dsimp only at hSw); go_simp; try (with_reducible rfl))
      case cr10 =>
      try simp only [Act.put, List.setIfInBounds_toArray, List.set_cons_zero, List.set_cons_succ]
      refine wpAnyH_take (i := 11) (oi := { dst := some 104, op := Go.Op.indexAddr 62 (Go.Operand.tmp 7) (Go.Operand.tmp 103), type := 0, pos := "ref.go:48", after := #[{ on := 10, ground := Go.Ground.data }], guard := none }) (v := ?cv11) rfl (by kernel_rfl) (by kernel_rfl) (by kernel_rfl) (fun _ _ _ h => hPan _ _ _ _ _ h) (Or.inl ⟨by rfl, ?cy11⟩) (by assumption) ?cr11
      case cy11 => (intro w hSw; (try dsimp only at hSw); go_simp; try (with_reducible rfl))
      case cr11 =>
      try simp only [Act.put, List.setIfInBounds_toArray, List.set_cons_zero, List.set_cons_succ]
      refine wpAnyH_take (i := 12) (oi := { dst := some 105, op := Go.Op.load 61 (Go.Operand.tmp 104), type := 61, pos := "ref.go:48", after := #[{ on := 11, ground := Go.Ground.data }], guard := none }) (v := ?cv12) rfl (by kernel_rfl) (by kernel_rfl) (by kernel_rfl) (fun _ _ _ h => hPan _ _ _ _ _ h) (Or.inl ⟨by rfl, ?cy12⟩) (by assumption) ?cr12
      case cy12 => (intro w hSw; (try dsimp only at hSw); go_simp; try (with_reducible rfl))
      case cr12 =>
      try simp only [Act.put, List.setIfInBounds_toArray, List.set_cons_zero, List.set_cons_succ]
      refine wpAnyH_take (i := 13) (oi := { dst := some 106, op := Go.Op.binOp Go.BinOp.add 61 (Go.Operand.tmp 101) (Go.Operand.tmp 105) 61, type := 61, pos := "ref.go:48", after := #[{ on := 8, ground := Go.Ground.data }, { on := 12, ground := Go.Ground.data }], guard := none }) (v := ?cv13) rfl (by kernel_rfl) (by kernel_rfl) (by kernel_rfl) (fun _ _ _ h => hPan _ _ _ _ _ h) (Or.inl ⟨by rfl, ?cy13⟩) (by assumption) ?cr13
      case cy13 => (intro w hSw; (try dsimp only at hSw); go_simp; try (with_reducible rfl))
      case cr13 =>
      try simp only [Act.put, List.setIfInBounds_toArray, List.set_cons_zero, List.set_cons_succ]
      refine wpAnyH_take (i := 14) (oi := { dst := some 107, op := Go.Op.indexAddr 62 (Go.Operand.tmp 7) (Go.Operand.tmp 93), type := 0, pos := "ref.go:48", after := #[{ on := 0, ground := Go.Ground.data }, { on := 0, ground := Go.Ground.phase }, { on := 1, ground := Go.Ground.phase }, { on := 2, ground := Go.Ground.phase }, { on := 3, ground := Go.Ground.phase }, { on := 4, ground := Go.Ground.phase }, { on := 5, ground := Go.Ground.phase }, { on := 6, ground := Go.Ground.phase }, { on := 7, ground := Go.Ground.phase }, { on := 8, ground := Go.Ground.phase }, { on := 9, ground := Go.Ground.phase }, { on := 10, ground := Go.Ground.phase }, { on := 11, ground := Go.Ground.phase }, { on := 12, ground := Go.Ground.phase }, { on := 13, ground := Go.Ground.phase }], guard := none }) (v := ?cv14) rfl (by kernel_rfl) (by kernel_rfl) (by kernel_rfl) (fun _ _ _ h => hPan _ _ _ _ _ h) (Or.inl ⟨by rfl, ?cy14⟩) (by assumption) ?cr14
      case cy14 => (intro w hSw; (try dsimp only at hSw); go_simp; try (with_reducible rfl))
      case cr14 =>
      try simp only [Act.put, List.setIfInBounds_toArray, List.set_cons_zero, List.set_cons_succ]
      refine wpAnyH_ready (rs := [15]) (by kernel_rfl) (by simp) ?_
      refine AllReadyH.cons (o := { dst := none, op := Go.Op.store 61 (Go.Operand.tmp 107) (Go.Operand.tmp 106), type := 0, pos := "ref.go:48", after := #[{ on := 14, ground := Go.Ground.data }, { on := 13, ground := Go.Ground.data }, { on := 0, ground := Go.Ground.phase }, { on := 1, ground := Go.Ground.phase }, { on := 2, ground := Go.Ground.phase }, { on := 3, ground := Go.Ground.phase }, { on := 4, ground := Go.Ground.phase }, { on := 5, ground := Go.Ground.phase }, { on := 6, ground := Go.Ground.phase }, { on := 7, ground := Go.Ground.phase }, { on := 8, ground := Go.Ground.phase }, { on := 9, ground := Go.Ground.phase }, { on := 10, ground := Go.Ground.phase }, { on := 11, ground := Go.Ground.phase }, { on := 12, ground := Go.Ground.phase }, { on := 13, ground := Go.Ground.phase }], guard := none }) rfl (fun K hK => ?_) (AllReadyH.nil)
      go_simp
      refine hK.out _ _ ?_ (fun hHeld => ?_)
      · exact ⟨(World.cell?_setCell_other _ _ _ _ (by intro h; injection h with _ h; omega)).trans k3, (World.cell?_setCell_other _ _ _ _ (by intro h; injection h with _ h; omega)).trans k4⟩
      clear hK K
      try simp only [Act.put]
      refine wpAnyH_done (by kernel_rfl) ?_ _
      go_wp2_with fail
      have HB2 := (HBEL.out.setCell (p := ⟨W, t, none⟩) (Nat.le_refl _) (.int .u32 (IntKind.u32.wrap (IntKind.u32.wrap (IntKind.u32.wrap (s1 + u) + s0) + v))))
      exact ⟨⟨n + 1, t + 1, by have := ht2.out; omega, Lib.hid (by have := ht2.out; omega), by omega, by omega, by go_num, HSET.out, ⟨HB2.os, HB2.tape, HB2.output, HB2.size, HB2.block⟩⟩, by simp [intOf]; omega⟩
    · obtain rfl : t = 64 := by omega
      have hn48 : n = 48 := by have := ht2.out; omega
      have hW : ws = W64 bs := by rw [hws, hn48]; unfold W64; with_reducible rfl
      rw [padZ_full hwl, hW] at hrow
      have hrow2 : IRow wr W 62 .u32 (W64 bs) := by with_reducible exact hrow
      have HR := Lib.hid hrow2
      have HBEL := Lib.hid hbel
      have e64 : ((64 : Nat) : Int) = 64 := rfl
      rw [e64]
      clear hrow hrow2 hbel hW hws hwl hn48 ht2 e64 h64
      go_wp2_with fail
      exact HQ.out _ _ _ _ _ _ _ _ _ _ _ _ _ _ _ _ _ _ _ _ _ _ _ _ _ _ _ _ _ _ _ _ _ _ _ _ _ _ _ _ _ _ _ _ _ _ _ _ _ _ _ _ _ _ _ _ _ HR.out HBEL.out
end Go.Proofs.YtehodjbjioepnaaDoor

/-
  The reference's Sum256: the sixty-four rounds. Conditions: none.
-/
namespace Go.Proofs.YtehodjbjioepnaaDoor
open Go.RowKit

theorem k256_at {t : Nat} (h : t < 64) : ∃ k, k256[t]? = some k ∧ U32 k := by
  have hl : k256.length = 64 := rfl
  refine ⟨k256[t]'(by omega), List.getElem?_eq_getElem _, ?_⟩
  have h2 : ∀ x ∈ k256, 0 ≤ x ∧ x < 4294967296 := by decide
  exact h2 _ (List.getElem_mem _)
set_option maxRecDepth 1000000 in
set_option maxHeartbeats 12800000 in
theorem rb8_any {Q : Exit → Act → World → Prop} (BK W V : Nat) (bs : List UInt8) (s0 : S8) (w6 : World) (hok : s0.Ok) (hKV : BK < V) (hWV : W < V) (rK : IRow w6 BK 62 .u32 k256) (rW : IRow w6 W 62 .u32 (W64 bs)) (rV : IRow w6 V 63 .u32 s0.list) (u0 u1 u2 u4 u5 u6 u8 u9 u10 u11 u12 u15 u16 u17 u18 u19 u20 u21 u22 u23 u24 u25 u26 u27 u28 u29 u30 u31 u32 u33 u34 u35 u36 u37 u38 u39 u40 u41 u42 u43 u44 u45 u46 u47 u48 u49 u50 u51 u52 u53 u54 u55 u56 u57 u58 u59 u60 u61 u62 u63 u64 u65 u66 u67 u68 u69 u70 u71 u72 u73 u74 u75 u76 u77 u78 u79 u80 u81 u82 u83 u84 u85 u86 u87 u88 u89 u90 u91 u92 u93 u94 u95 u96 u97 u98 u99 u100 u101 u102 u103 u104 u105 u106 u107 u108 u109 u110 u111 u112 u113 u114 u115 u116 u117 u118 u119 u120 u121 u122 u123 u124 u125 u126 u127 u128 u129 u130 u131 u132 u133 u134 u135 u136 u137 u138 u139 u140 u141 u142 u143 u144 u145 u146 u147 u148 u149 u150 u151 u152 u153 u154 u155 u156 u157 u158 u159 u160 u161 u162 u163 u164 u165 u166 u167 u168 u169 u170 u171 u172 u173 u174 u175 u176 u177 u178 u179 u180 u181 u182 u183 u184 u185 u186 u187 u188 u189 u190 u191 u192 u193 u194 u195 u196 u197 u198 u199 u200 u201 u202 u203 u204 u205 u206 u207 u208 u209 u210 u211 u212 u213 u214 u215 u216 u217 u218 u219 u220 u221 u222 u223 u224 u225 u226 u227 : Value)
    (hPan : ∀ (c : List PanicEntry) (a : Act) (d : Tmp) (v : Value) (w : World), Q (.panic c) (a.put (some d) v) w → Q (.panic c) a w)
    (hQ : ∀ (v14 v15 v16 v109 v110 v111 v112 v113 v114 v115 v116 v117 v118 v119 v120 v121 v122 v123 v124 v125 v126 v127 v128 v129 v130 v131 v132 v133 v134 v135 v136 v137 v138 v139 v140 v141 v142 v143 v144 v145 v146 v147 v148 v149 v150 v151 v152 v153 v154 v155 v156 v157 v158 v159 v160 v161 v162 v163 v164 v165 v166 v167 v168 v169 v170 v171 v172 v173 v174 v175 v176 v177 v178 v179 v180 v181 v182 v183 v184 v185 v186 v187 v188 v189 v190 v191 v192 v193 v194 v195 v196 : Value) (w' : World), IRow w' V 63 .u32 (rounds k256 (W64 bs) 64 s0).list → Below V w6 w' → Q .normal ⟨#[u0, u1, u2, .pointer (some ⟨BK, 0, none⟩), u4, u5, u6, .pointer (some ⟨W, 0, none⟩), u8, u9, u10, u11, u12, .pointer (some ⟨V, 0, none⟩), v14, v15, v16, u17, u18, u19, u20, u21, u22, u23, u24, u25, u26, u27, u28, u29, u30, u31, u32, u33, u34, u35, u36, u37, u38, u39, u40, u41, u42, u43, u44, u45, u46, u47, u48, u49, u50, u51, u52, u53, u54, u55, u56, u57, u58, u59, u60, u61, u62, u63, u64, u65, u66, u67, u68, u69, u70, u71, u72, u73, u74, u75, u76, u77, u78, u79, u80, u81, u82, u83, u84, u85, u86, u87, u88, u89, u90, u91, u92, u93, u94, u95, u96, u97, u98, u99, u100, u101, u102, u103, u104, u105, u106, u107, u108, v109, v110, v111, v112, v113, v114, v115, v116, v117, v118, v119, v120, v121, v122, v123, v124, v125, v126, v127, v128, v129, v130, v131, v132, v133, v134, v135, v136, v137, v138, v139, v140, v141, v142, v143, v144, v145, v146, v147, v148, v149, v150, v151, v152, v153, v154, v155, v156, v157, v158, v159, v160, v161, v162, v163, v164, v165, v166, v167, v168, v169, v170, v171, v172, v173, v174, v175, v176, v177, v178, v179, v180, v181, v182, v183, v184, v185, v186, v187, v188, v189, v190, v191, v192, v193, v194, v195, v196, u197, u198, u199, u200, u201, u202, u203, u204, u205, u206, u207, u208, u209, u210, u211, u212, u213, u214, u215, u216, u217, u218, u219, u220, u221, u222, u223, u224, u225, u226, u227], []⟩ w') :
    Code.wp Tryd.prog (blkOf 8 Tryd.f34) Q ⟨#[u0, u1, u2, .pointer (some ⟨BK, 0, none⟩), u4, u5, u6, .pointer (some ⟨W, 0, none⟩), u8, u9, u10, u11, u12, .pointer (some ⟨V, 0, none⟩), .int .i64 0, u15, u16, u17, u18, u19, u20, u21, u22, u23, u24, u25, u26, u27, u28, u29, u30, u31, u32, u33, u34, u35, u36, u37, u38, u39, u40, u41, u42, u43, u44, u45, u46, u47, u48, u49, u50, u51, u52, u53, u54, u55, u56, u57, u58, u59, u60, u61, u62, u63, u64, u65, u66, u67, u68, u69, u70, u71, u72, u73, u74, u75, u76, u77, u78, u79, u80, u81, u82, u83, u84, u85, u86, u87, u88, u89, u90, u91, u92, u93, u94, u95, u96, u97, u98, u99, u100, u101, u102, u103, u104, u105, u106, u107, u108, u109, u110, u111, u112, u113, u114, u115, u116, u117, u118, u119, u120, u121, u122, u123, u124, u125, u126, u127, u128, u129, u130, u131, u132, u133, u134, u135, u136, u137, u138, u139, u140, u141, u142, u143, u144, u145, u146, u147, u148, u149, u150, u151, u152, u153, u154, u155, u156, u157, u158, u159, u160, u161, u162, u163, u164, u165, u166, u167, u168, u169, u170, u171, u172, u173, u174, u175, u176, u177, u178, u179, u180, u181, u182, u183, u184, u185, u186, u187, u188, u189, u190, u191, u192, u193, u194, u195, u196, u197, u198, u199, u200, u201, u202, u203, u204, u205, u206, u207, u208, u209, u210, u211, u212, u213, u214, u215, u216, u217, u218, u219, u220, u221, u222, u223, u224, u225, u226, u227], []⟩ w6 := by
  conv => arg 2; whnf
  have HQ := Lib.hid hQ
  have RK := Lib.hid rK
  have RW := Lib.hid rW
  have RV := Lib.hid rV
  have HS := Lib.hid hok
  clear hQ rK rW rV hok
  go_wp2_with fail
  go_loopw [14] (fun v14 wr => ∃ (t : Nat) (s : S8), t ≤ 64 ∧ Hid (s = rounds k256 (W64 bs) t s0) ∧ v14 = .int .i64 (t : Int) ∧ IRow wr V 63 .u32 s.list ∧ Below V w6 wr) (fun v14 _ => 64 - (intOf v14).toNat)
  case atStart => exact ⟨0, s0, by omega, Lib.hid rfl, rfl, RV.out, Below.refl _ _⟩
  case round =>
    obtain ⟨t, s, ht, hst, rfl, hrow, hbel⟩ := hrel
    by_cases h64 : t < 64
    · obtain ⟨kk, hk, hkk⟩ := k256_at h64
      obtain ⟨x, hx⟩ : ∃ x, (W64 bs)[t]? = some x := ⟨_, List.getElem?_eq_getElem (by rw [W64_length]; omega)⟩
      have kc : wr.cell? ⟨BK, t, none⟩ = some (.int .u32 kk) := (RK.out.below hbel hKV).cell hk
      have wc : wr.cell? ⟨W, t, none⟩ = some (.int .u32 x) := (RW.out.below hbel hWV).cell hx
      have m0 := hrow.cell (i := 0) rfl
      have m1 := hrow.cell (i := 1) rfl
      have m2 := hrow.cell (i := 2) rfl
      have m3 := hrow.cell (i := 3) rfl
      have m4 := hrow.cell (i := 4) rfl
      have m5 := hrow.cell (i := 5) rfl
      have m6 := hrow.cell (i := 6) rfl
      have m7 := hrow.cell (i := 7) rfl
      have bt : (t : Int) < 64 := by omega
      have hok : s.Ok := by rw [hst.out]; exact rounds_ok _ _ _ HS.out
      have C1 := Lib.hid (fun W => rrot_any s.e 26 W hok.e (by omega))
      have C2 := Lib.hid (fun W => rrot_any s.e 21 W hok.e (by omega))
      have C3 := Lib.hid (fun W => rrot_any s.e 7 W hok.e (by omega))
      have C4 := Lib.hid (fun W => rrot_any s.a 30 W hok.a (by omega))
      have C5 := Lib.hid (fun W => rrot_any s.a 19 W hok.a (by omega))
      have C6 := Lib.hid (fun W => rrot_any s.a 10 W hok.a (by omega))
      have HX := Lib.hid hx
      have HK := Lib.hid hk
      have HROW := Lib.hid hrow
      have HBEL := Lib.hid hbel
      clear hx hk hrow hbel hok hkk
      go_wp2_with fail
      refine wp_region_held_drew (S := (fun w' => w'.cell? ⟨V, 4, none⟩ = some (.int .u32 s.e) ∧ w'.cell? ⟨V, 5, none⟩ = some (.int .u32 s.f) ∧ w'.cell? ⟨V, 6, none⟩ = some (.int .u32 s.g) ∧ w'.cell? ⟨V, 7, none⟩ = some (.int .u32 s.h) ∧ w'.cell? ⟨BK, t, none⟩ = some (.int .u32 kk) ∧ w'.cell? ⟨W, t, none⟩ = some (.int .u32 x))) (by kernel_rfl) ?_ (fun hHeld => ?_)
      · exact ⟨m4, m5, m6, m7, kc, wc⟩
      refine wpAnyH_take (i := 0) (oi := { dst := some 113, op := Go.Op.indexAddr 63 (Go.Operand.tmp 13) (Go.Operand.const (Go.Value.int Go.IntKind.i64 7)), type := 0, pos := "ref.go:52", after := #[], guard := none }) (v := ?av0) rfl (by kernel_rfl) (by kernel_rfl) (by kernel_rfl) (fun _ _ _ h => hPan _ _ _ _ _ h) (Or.inl ⟨by rfl, ?ay0⟩) (by assumption) ?ar0
      case ay0 => (intro w hSw; (try dsimp only at hSw); go_simp; try (with_reducible rfl))
      case ar0 =>
      try simp only [Act.put, List.setIfInBounds_toArray, List.set_cons_zero, List.set_cons_succ]
      refine wpAnyH_take (i := 1) (oi := { dst := some 114, op := Go.Op.load 61 (Go.Operand.tmp 113), type := 61, pos := "ref.go:52", after := #[{ on := 0, ground := Go.Ground.data }], guard := none }) (v := ?av1) rfl (by kernel_rfl) (by kernel_rfl) (by kernel_rfl) (fun _ _ _ h => hPan _ _ _ _ _ h) (Or.inl ⟨by rfl, ?ay1⟩) (by assumption) ?ar1
      case ay1 => (intro w hSw; (try dsimp only at hSw); go_simp; try (with_reducible rfl))
      case ar1 =>
      try simp only [Act.put, List.setIfInBounds_toArray, List.set_cons_zero, List.set_cons_succ]
      refine wpAnyH_take (i := 2) (oi := { dst := some 115, op := Go.Op.indexAddr 63 (Go.Operand.tmp 13) (Go.Operand.const (Go.Value.int Go.IntKind.i64 4)), type := 0, pos := "ref.go:52", after := #[], guard := none }) (v := ?av2) rfl (by kernel_rfl) (by kernel_rfl) (by kernel_rfl) (fun _ _ _ h => hPan _ _ _ _ _ h) (Or.inl ⟨by rfl, ?ay2⟩) (by assumption) ?ar2
      case ay2 => (intro w hSw; (try dsimp only at hSw); go_simp; try (with_reducible rfl))
      case ar2 =>
      try simp only [Act.put, List.setIfInBounds_toArray, List.set_cons_zero, List.set_cons_succ]
      refine wpAnyH_take (i := 3) (oi := { dst := some 116, op := Go.Op.load 61 (Go.Operand.tmp 115), type := 61, pos := "ref.go:52", after := #[{ on := 2, ground := Go.Ground.data }], guard := none }) (v := ?av3) rfl (by kernel_rfl) (by kernel_rfl) (by kernel_rfl) (fun _ _ _ h => hPan _ _ _ _ _ h) (Or.inl ⟨by rfl, ?ay3⟩) (by assumption) ?ar3
      case ay3 => (intro w hSw; (try dsimp only at hSw); go_simp; try (with_reducible rfl))
      case ar3 =>
      try simp only [Act.put, List.setIfInBounds_toArray, List.set_cons_zero, List.set_cons_succ]
      refine wpAnyH_take (i := 5) (oi := { dst := some 118, op := Go.Op.indexAddr 63 (Go.Operand.tmp 13) (Go.Operand.const (Go.Value.int Go.IntKind.i64 4)), type := 0, pos := "ref.go:52", after := #[], guard := none }) (v := ?av5) rfl (by kernel_rfl) (by kernel_rfl) (by kernel_rfl) (fun _ _ _ h => hPan _ _ _ _ _ h) (Or.inl ⟨by rfl, ?ay5⟩) (by assumption) ?ar5
      case ay5 => (intro w hSw; (try dsimp only at hSw); go_simp; try (with_reducible rfl))
      case ar5 =>
      try simp only [Act.put, List.setIfInBounds_toArray, List.set_cons_zero, List.set_cons_succ]
      refine wpAnyH_take (i := 6) (oi := { dst := some 119, op := Go.Op.load 61 (Go.Operand.tmp 118), type := 61, pos := "ref.go:52", after := #[{ on := 5, ground := Go.Ground.data }], guard := none }) (v := ?av6) rfl (by kernel_rfl) (by kernel_rfl) (by kernel_rfl) (fun _ _ _ h => hPan _ _ _ _ _ h) (Or.inl ⟨by rfl, ?ay6⟩) (by assumption) ?ar6
      case ay6 => (intro w hSw; (try dsimp only at hSw); go_simp; try (with_reducible rfl))
      case ar6 =>
      try simp only [Act.put, List.setIfInBounds_toArray, List.set_cons_zero, List.set_cons_succ]
      refine wpAnyH_take (i := 9) (oi := { dst := some 122, op := Go.Op.indexAddr 63 (Go.Operand.tmp 13) (Go.Operand.const (Go.Value.int Go.IntKind.i64 4)), type := 0, pos := "ref.go:52", after := #[], guard := none }) (v := ?av9) rfl (by kernel_rfl) (by kernel_rfl) (by kernel_rfl) (fun _ _ _ h => hPan _ _ _ _ _ h) (Or.inl ⟨by rfl, ?ay9⟩) (by assumption) ?ar9
      case ay9 => (intro w hSw; (try dsimp only at hSw); go_simp; try (with_reducible rfl))
      case ar9 =>
      try simp only [Act.put, List.setIfInBounds_toArray, List.set_cons_zero, List.set_cons_succ]
      refine wpAnyH_take (i := 10) (oi := { dst := some 123, op := Go.Op.load 61 (Go.Operand.tmp 122), type := 61, pos := "ref.go:52", after := #[{ on := 9, ground := Go.Ground.data }], guard := none }) (v := ?av10) rfl (by kernel_rfl) (by kernel_rfl) (by kernel_rfl) (fun _ _ _ h => hPan _ _ _ _ _ h) (Or.inl ⟨by rfl, ?ay10⟩) (by assumption) ?ar10
      case ay10 => (intro w hSw; (try dsimp only at hSw); go_simp; try (with_reducible rfl))
      case ar10 =>
      try simp only [Act.put, List.setIfInBounds_toArray, List.set_cons_zero, List.set_cons_succ]
      refine wpAnyH_take (i := 14) (oi := { dst := some 127, op := Go.Op.indexAddr 63 (Go.Operand.tmp 13) (Go.Operand.const (Go.Value.int Go.IntKind.i64 4)), type := 0, pos := "ref.go:52", after := #[], guard := none }) (v := ?av14) rfl (by kernel_rfl) (by kernel_rfl) (by kernel_rfl) (fun _ _ _ h => hPan _ _ _ _ _ h) (Or.inl ⟨by rfl, ?ay14⟩) (by assumption) ?ar14
      case ay14 => (intro w hSw; (try dsimp only at hSw); go_simp; try (with_reducible rfl))
      case ar14 =>
      try simp only [Act.put, List.setIfInBounds_toArray, List.set_cons_zero, List.set_cons_succ]
      refine wpAnyH_take (i := 15) (oi := { dst := some 128, op := Go.Op.load 61 (Go.Operand.tmp 127), type := 61, pos := "ref.go:52", after := #[{ on := 14, ground := Go.Ground.data }], guard := none }) (v := ?av15) rfl (by kernel_rfl) (by kernel_rfl) (by kernel_rfl) (fun _ _ _ h => hPan _ _ _ _ _ h) (Or.inl ⟨by rfl, ?ay15⟩) (by assumption) ?ar15
      case ay15 => (intro w hSw; (try dsimp only at hSw); go_simp; try (with_reducible rfl))
      case ar15 =>
      try simp only [Act.put, List.setIfInBounds_toArray, List.set_cons_zero, List.set_cons_succ]
      refine wpAnyH_take (i := 16) (oi := { dst := some 129, op := Go.Op.indexAddr 63 (Go.Operand.tmp 13) (Go.Operand.const (Go.Value.int Go.IntKind.i64 5)), type := 0, pos := "ref.go:52", after := #[], guard := none }) (v := ?av16) rfl (by kernel_rfl) (by kernel_rfl) (by kernel_rfl) (fun _ _ _ h => hPan _ _ _ _ _ h) (Or.inl ⟨by rfl, ?ay16⟩) (by assumption) ?ar16
      case ay16 => (intro w hSw; (try dsimp only at hSw); go_simp; try (with_reducible rfl))
      case ar16 =>
      try simp only [Act.put, List.setIfInBounds_toArray, List.set_cons_zero, List.set_cons_succ]
      refine wpAnyH_take (i := 17) (oi := { dst := some 130, op := Go.Op.load 61 (Go.Operand.tmp 129), type := 61, pos := "ref.go:52", after := #[{ on := 16, ground := Go.Ground.data }], guard := none }) (v := ?av17) rfl (by kernel_rfl) (by kernel_rfl) (by kernel_rfl) (fun _ _ _ h => hPan _ _ _ _ _ h) (Or.inl ⟨by rfl, ?ay17⟩) (by assumption) ?ar17
      case ay17 => (intro w hSw; (try dsimp only at hSw); go_simp; try (with_reducible rfl))
      case ar17 =>
      try simp only [Act.put, List.setIfInBounds_toArray, List.set_cons_zero, List.set_cons_succ]
      refine wpAnyH_take (i := 18) (oi := { dst := some 131, op := Go.Op.binOp Go.BinOp.and 61 (Go.Operand.tmp 128) (Go.Operand.tmp 130) 61, type := 61, pos := "ref.go:52", after := #[{ on := 15, ground := Go.Ground.data }, { on := 17, ground := Go.Ground.data }], guard := none }) (v := ?av18) rfl (by kernel_rfl) (by kernel_rfl) (by kernel_rfl) (fun _ _ _ h => hPan _ _ _ _ _ h) (Or.inl ⟨by rfl, ?ay18⟩) (by assumption) ?ar18
      case ay18 => (intro w hSw; (try dsimp only at hSw); go_simp; try (with_reducible rfl))
      case ar18 =>
      try simp only [Act.put, List.setIfInBounds_toArray, List.set_cons_zero, List.set_cons_succ]
      refine wpAnyH_take (i := 19) (oi := { dst := some 132, op := Go.Op.indexAddr 63 (Go.Operand.tmp 13) (Go.Operand.const (Go.Value.int Go.IntKind.i64 4)), type := 0, pos := "ref.go:52", after := #[], guard := none }) (v := ?av19) rfl (by kernel_rfl) (by kernel_rfl) (by kernel_rfl) (fun _ _ _ h => hPan _ _ _ _ _ h) (Or.inl ⟨by rfl, ?ay19⟩) (by assumption) ?ar19
      case ay19 => (intro w hSw; (try dsimp only at hSw); go_simp; try (with_reducible rfl))
      case ar19 =>
      try simp only [Act.put, List.setIfInBounds_toArray, List.set_cons_zero, List.set_cons_succ]
      refine wpAnyH_take (i := 20) (oi := { dst := some 133, op := Go.Op.load 61 (Go.Operand.tmp 132), type := 61, pos := "ref.go:52", after := #[{ on := 19, ground := Go.Ground.data }], guard := none }) (v := ?av20) rfl (by kernel_rfl) (by kernel_rfl) (by kernel_rfl) (fun _ _ _ h => hPan _ _ _ _ _ h) (Or.inl ⟨by rfl, ?ay20⟩) (by assumption) ?ar20
      case ay20 => (intro w hSw; (try dsimp only at hSw); go_simp; try (with_reducible rfl))
      case ar20 =>
      try simp only [Act.put, List.setIfInBounds_toArray, List.set_cons_zero, List.set_cons_succ]
      refine wpAnyH_take (i := 21) (oi := { dst := some 134, op := Go.Op.unOp Go.UnOp.xor 61 (Go.Operand.tmp 133), type := 61, pos := "ref.go:52", after := #[{ on := 20, ground := Go.Ground.data }], guard := none }) (v := ?av21) rfl (by kernel_rfl) (by kernel_rfl) (by kernel_rfl) (fun _ _ _ h => hPan _ _ _ _ _ h) (Or.inl ⟨by rfl, ?ay21⟩) (by assumption) ?ar21
      case ay21 => (intro w hSw; (try dsimp only at hSw); go_simp; try (with_reducible rfl))
      case ar21 =>
      try simp only [Act.put, List.setIfInBounds_toArray, List.set_cons_zero, List.set_cons_succ]
      refine wpAnyH_take (i := 22) (oi := { dst := some 135, op := Go.Op.indexAddr 63 (Go.Operand.tmp 13) (Go.Operand.const (Go.Value.int Go.IntKind.i64 6)), type := 0, pos := "ref.go:52", after := #[], guard := none }) (v := ?av22) rfl (by kernel_rfl) (by kernel_rfl) (by kernel_rfl) (fun _ _ _ h => hPan _ _ _ _ _ h) (Or.inl ⟨by rfl, ?ay22⟩) (by assumption) ?ar22
      case ay22 => (intro w hSw; (try dsimp only at hSw); go_simp; try (with_reducible rfl))
      case ar22 =>
      try simp only [Act.put, List.setIfInBounds_toArray, List.set_cons_zero, List.set_cons_succ]
      refine wpAnyH_take (i := 23) (oi := { dst := some 136, op := Go.Op.load 61 (Go.Operand.tmp 135), type := 61, pos := "ref.go:52", after := #[{ on := 22, ground := Go.Ground.data }], guard := none }) (v := ?av23) rfl (by kernel_rfl) (by kernel_rfl) (by kernel_rfl) (fun _ _ _ h => hPan _ _ _ _ _ h) (Or.inl ⟨by rfl, ?ay23⟩) (by assumption) ?ar23
      case ay23 => (intro w hSw; (try dsimp only at hSw); go_simp; try (with_reducible rfl))
      case ar23 =>
      try simp only [Act.put, List.setIfInBounds_toArray, List.set_cons_zero, List.set_cons_succ]
      refine wpAnyH_take (i := 24) (oi := { dst := some 137, op := Go.Op.binOp Go.BinOp.and 61 (Go.Operand.tmp 134) (Go.Operand.tmp 136) 61, type := 61, pos := "ref.go:52", after := #[{ on := 21, ground := Go.Ground.data }, { on := 23, ground := Go.Ground.data }], guard := none }) (v := ?av24) rfl (by kernel_rfl) (by kernel_rfl) (by kernel_rfl) (fun _ _ _ h => hPan _ _ _ _ _ h) (Or.inl ⟨by rfl, ?ay24⟩) (by assumption) ?ar24
      case ay24 => (intro w hSw; (try dsimp only at hSw); go_simp; try (with_reducible rfl))
      case ar24 =>
      try simp only [Act.put, List.setIfInBounds_toArray, List.set_cons_zero, List.set_cons_succ]
      refine wpAnyH_take (i := 25) (oi := { dst := some 138, op := Go.Op.binOp Go.BinOp.xor 61 (Go.Operand.tmp 131) (Go.Operand.tmp 137) 61, type := 61, pos := "ref.go:52", after := #[{ on := 18, ground := Go.Ground.data }, { on := 24, ground := Go.Ground.data }], guard := none }) (v := ?av25) rfl (by kernel_rfl) (by kernel_rfl) (by kernel_rfl) (fun _ _ _ h => hPan _ _ _ _ _ h) (Or.inl ⟨by rfl, ?ay25⟩) (by assumption) ?ar25
      case ay25 => (intro w hSw; (try dsimp only at hSw); go_simp; try (with_reducible rfl))
      case ar25 =>
      try simp only [Act.put, List.setIfInBounds_toArray, List.set_cons_zero, List.set_cons_succ]
      refine wpAnyH_take (i := 27) (oi := { dst := some 140, op := Go.Op.move (Go.Operand.tmp 14), type := 3, pos := "ref.go:52", after := #[], guard := none }) (v := ?av27) rfl (by kernel_rfl) (by kernel_rfl) (by kernel_rfl) (fun _ _ _ h => hPan _ _ _ _ _ h) (Or.inl ⟨by rfl, ?ay27⟩) (by assumption) ?ar27
      case ay27 => (intro w hSw; (try dsimp only at hSw); go_simp; try (with_reducible rfl))
      case ar27 =>
      try simp only [Act.put, List.setIfInBounds_toArray, List.set_cons_zero, List.set_cons_succ]
      refine wpAnyH_take (i := 28) (oi := { dst := some 141, op := Go.Op.indexAddr 62 (Go.Operand.tmp 3) (Go.Operand.tmp 140), type := 0, pos := "ref.go:52", after := #[{ on := 27, ground := Go.Ground.data }], guard := none }) (v := ?av28) rfl (by kernel_rfl) (by kernel_rfl) (by kernel_rfl) (fun _ _ _ h => hPan _ _ _ _ _ h) (Or.inl ⟨by rfl, ?ay28⟩) (by assumption) ?ar28
      case ay28 => (intro w hSw; (try dsimp only at hSw); go_simp; try (with_reducible rfl))
      case ar28 =>
      try simp only [Act.put, List.setIfInBounds_toArray, List.set_cons_zero, List.set_cons_succ]
      refine wpAnyH_take (i := 29) (oi := { dst := some 142, op := Go.Op.load 61 (Go.Operand.tmp 141), type := 61, pos := "ref.go:52", after := #[{ on := 28, ground := Go.Ground.data }], guard := none }) (v := ?av29) rfl (by kernel_rfl) (by kernel_rfl) (by kernel_rfl) (fun _ _ _ h => hPan _ _ _ _ _ h) (Or.inl ⟨by rfl, ?ay29⟩) (by assumption) ?ar29
      case ay29 => (intro w hSw; (try dsimp only at hSw); go_simp; try (with_reducible rfl))
      case ar29 =>
      try simp only [Act.put, List.setIfInBounds_toArray, List.set_cons_zero, List.set_cons_succ]
      refine wpAnyH_take (i := 31) (oi := { dst := some 144, op := Go.Op.move (Go.Operand.tmp 14), type := 3, pos := "ref.go:52", after := #[], guard := none }) (v := ?av31) rfl (by kernel_rfl) (by kernel_rfl) (by kernel_rfl) (fun _ _ _ h => hPan _ _ _ _ _ h) (Or.inl ⟨by rfl, ?ay31⟩) (by assumption) ?ar31
      case ay31 => (intro w hSw; (try dsimp only at hSw); go_simp; try (with_reducible rfl))
      case ar31 =>
      try simp only [Act.put, List.setIfInBounds_toArray, List.set_cons_zero, List.set_cons_succ]
      refine wpAnyH_take (i := 32) (oi := { dst := some 145, op := Go.Op.indexAddr 62 (Go.Operand.tmp 7) (Go.Operand.tmp 144), type := 0, pos := "ref.go:52", after := #[{ on := 31, ground := Go.Ground.data }], guard := none }) (v := ?av32) rfl (by kernel_rfl) (by kernel_rfl) (by kernel_rfl) (fun _ _ _ h => hPan _ _ _ _ _ h) (Or.inl ⟨by rfl, ?ay32⟩) (by assumption) ?ar32
      case ay32 => (intro w hSw; (try dsimp only at hSw); go_simp; try (with_reducible rfl))
      case ar32 =>
      try simp only [Act.put, List.setIfInBounds_toArray, List.set_cons_zero, List.set_cons_succ]
      refine wpAnyH_take (i := 33) (oi := { dst := some 146, op := Go.Op.load 61 (Go.Operand.tmp 145), type := 61, pos := "ref.go:52", after := #[{ on := 32, ground := Go.Ground.data }], guard := none }) (v := ?av33) rfl (by kernel_rfl) (by kernel_rfl) (by kernel_rfl) (fun _ _ _ h => hPan _ _ _ _ _ h) (Or.inl ⟨by rfl, ?ay33⟩) (by assumption) ?ar33
      case ay33 => (intro w hSw; (try dsimp only at hSw); go_simp; try (with_reducible rfl))
      case ar33 =>
      try simp only [Act.put, List.setIfInBounds_toArray, List.set_cons_zero, List.set_cons_succ]
      refine wpAnyH_ready (rs := [4]) (by kernel_rfl) (by simp) ?_
      refine AllReadyH.cons (o := { dst := some 117, op := Go.Op.call { callee := Go.Callee.value (Go.Operand.func 39), args := #[Go.Operand.tmp 116, Go.Operand.const (Go.Value.int Go.IntKind.i64 26)], argTypes := #[61, 3] }, type := 61, pos := "ref.go:52", after := #[{ on := 3, ground := Go.Ground.data }], guard := none }) rfl (fun K hK => ?_) (AllReadyH.nil)
      go_simp
      refine (C1.out _).mono ?_
      rintro e w7 ⟨rfl, rfl⟩
      go_simp
      refine hK.out _ _ ?_ (fun hHeld => ?_)
      · exact hHeld
      clear hK K
      try simp only [Act.put, List.setIfInBounds_toArray, List.set_cons_zero, List.set_cons_succ]
      refine wpAnyH_ready (rs := [7]) (by kernel_rfl) (by simp) ?_
      refine AllReadyH.cons (o := { dst := some 120, op := Go.Op.call { callee := Go.Callee.value (Go.Operand.func 39), args := #[Go.Operand.tmp 119, Go.Operand.const (Go.Value.int Go.IntKind.i64 21)], argTypes := #[61, 3] }, type := 61, pos := "ref.go:52", after := #[{ on := 6, ground := Go.Ground.data }, { on := 4, ground := Go.Ground.chain }], guard := none }) rfl (fun K hK => ?_) (AllReadyH.nil)
      go_simp
      refine (C2.out _).mono ?_
      rintro e w7 ⟨rfl, rfl⟩
      go_simp
      refine hK.out _ _ ?_ (fun hHeld => ?_)
      · exact hHeld
      clear hK K
      try simp only [Act.put, List.setIfInBounds_toArray, List.set_cons_zero, List.set_cons_succ]
      refine wpAnyH_take (i := 8) (oi := { dst := some 121, op := Go.Op.binOp Go.BinOp.xor 61 (Go.Operand.tmp 117) (Go.Operand.tmp 120) 61, type := 61, pos := "ref.go:52", after := #[{ on := 4, ground := Go.Ground.data }, { on := 7, ground := Go.Ground.data }], guard := none }) (v := ?a_4_7v8) rfl (by kernel_rfl) (by kernel_rfl) (by kernel_rfl) (fun _ _ _ h => hPan _ _ _ _ _ h) (Or.inl ⟨by rfl, ?a_4_7y8⟩) (by assumption) ?a_4_7r8
      case a_4_7y8 => (intro w hSw; (try dsimp only at hSw); go_simp; try (with_reducible rfl))
      case a_4_7r8 =>
      try simp only [Act.put, List.setIfInBounds_toArray, List.set_cons_zero, List.set_cons_succ]
      refine wpAnyH_ready (rs := [11]) (by kernel_rfl) (by simp) ?_
      refine AllReadyH.cons (o := { dst := some 124, op := Go.Op.call { callee := Go.Callee.value (Go.Operand.func 39), args := #[Go.Operand.tmp 123, Go.Operand.const (Go.Value.int Go.IntKind.i64 7)], argTypes := #[61, 3] }, type := 61, pos := "ref.go:52", after := #[{ on := 10, ground := Go.Ground.data }, { on := 7, ground := Go.Ground.chain }], guard := none }) rfl (fun K hK => ?_) (AllReadyH.nil)
      go_simp
      refine (C3.out _).mono ?_
      rintro e w7 ⟨rfl, rfl⟩
      go_simp
      refine hK.out _ _ ?_ (fun hHeld => ?_)
      · exact hHeld
      clear hK K
      try simp only [Act.put, List.setIfInBounds_toArray, List.set_cons_zero, List.set_cons_succ]
      refine wpAnyH_take (i := 12) (oi := { dst := some 125, op := Go.Op.binOp Go.BinOp.xor 61 (Go.Operand.tmp 121) (Go.Operand.tmp 124) 61, type := 61, pos := "ref.go:52", after := #[{ on := 8, ground := Go.Ground.data }, { on := 11, ground := Go.Ground.data }], guard := none }) (v := ?a_4_7_11v12) rfl (by kernel_rfl) (by kernel_rfl) (by kernel_rfl) (fun _ _ _ h => hPan _ _ _ _ _ h) (Or.inl ⟨by rfl, ?a_4_7_11y12⟩) (by assumption) ?a_4_7_11r12
      case a_4_7_11y12 => (intro w hSw; (try dsimp only at hSw); go_simp; try (with_reducible rfl))
      case a_4_7_11r12 =>
      try simp only [Act.put, List.setIfInBounds_toArray, List.set_cons_zero, List.set_cons_succ]
      refine wpAnyH_take (i := 13) (oi := { dst := some 126, op := Go.Op.binOp Go.BinOp.add 61 (Go.Operand.tmp 114) (Go.Operand.tmp 125) 61, type := 61, pos := "ref.go:52", after := #[{ on := 1, ground := Go.Ground.data }, { on := 12, ground := Go.Ground.data }], guard := none }) (v := ?a_4_7_11v13) rfl (by kernel_rfl) (by kernel_rfl) (by kernel_rfl) (fun _ _ _ h => hPan _ _ _ _ _ h) (Or.inl ⟨by rfl, ?a_4_7_11y13⟩) (by assumption) ?a_4_7_11r13
      case a_4_7_11y13 => (intro w hSw; (try dsimp only at hSw); go_simp; try (with_reducible rfl))
      case a_4_7_11r13 =>
      try simp only [Act.put, List.setIfInBounds_toArray, List.set_cons_zero, List.set_cons_succ]
      refine wpAnyH_take (i := 26) (oi := { dst := some 139, op := Go.Op.binOp Go.BinOp.add 61 (Go.Operand.tmp 126) (Go.Operand.tmp 138) 61, type := 61, pos := "ref.go:52", after := #[{ on := 13, ground := Go.Ground.data }, { on := 25, ground := Go.Ground.data }], guard := none }) (v := ?a_4_7_11v26) rfl (by kernel_rfl) (by kernel_rfl) (by kernel_rfl) (fun _ _ _ h => hPan _ _ _ _ _ h) (Or.inl ⟨by rfl, ?a_4_7_11y26⟩) (by assumption) ?a_4_7_11r26
      case a_4_7_11y26 => (intro w hSw; (try dsimp only at hSw); go_simp; try (with_reducible rfl))
      case a_4_7_11r26 =>
      try simp only [Act.put, List.setIfInBounds_toArray, List.set_cons_zero, List.set_cons_succ]
      refine wpAnyH_take (i := 30) (oi := { dst := some 143, op := Go.Op.binOp Go.BinOp.add 61 (Go.Operand.tmp 139) (Go.Operand.tmp 142) 61, type := 61, pos := "ref.go:52", after := #[{ on := 26, ground := Go.Ground.data }, { on := 29, ground := Go.Ground.data }], guard := none }) (v := ?a_4_7_11v30) rfl (by kernel_rfl) (by kernel_rfl) (by kernel_rfl) (fun _ _ _ h => hPan _ _ _ _ _ h) (Or.inl ⟨by rfl, ?a_4_7_11y30⟩) (by assumption) ?a_4_7_11r30
      case a_4_7_11y30 => (intro w hSw; (try dsimp only at hSw); go_simp; try (with_reducible rfl))
      case a_4_7_11r30 =>
      try simp only [Act.put, List.setIfInBounds_toArray, List.set_cons_zero, List.set_cons_succ]
      refine wpAnyH_take (i := 34) (oi := { dst := some 147, op := Go.Op.binOp Go.BinOp.add 61 (Go.Operand.tmp 143) (Go.Operand.tmp 146) 61, type := 61, pos := "ref.go:52", after := #[{ on := 30, ground := Go.Ground.data }, { on := 33, ground := Go.Ground.data }], guard := none }) (v := ?a_4_7_11v34) rfl (by kernel_rfl) (by kernel_rfl) (by kernel_rfl) (fun _ _ _ h => hPan _ _ _ _ _ h) (Or.inl ⟨by rfl, ?a_4_7_11y34⟩) (by assumption) ?a_4_7_11r34
      case a_4_7_11y34 => (intro w hSw; (try dsimp only at hSw); go_simp; try (with_reducible rfl))
      case a_4_7_11r34 =>
      try simp only [Act.put, List.setIfInBounds_toArray, List.set_cons_zero, List.set_cons_succ]
      refine wpAnyH_take (i := 35) (oi := { dst := some 15, op := Go.Op.assign (Go.Operand.tmp 147), type := 61, pos := "ref.go:52", after := #[{ on := 34, ground := Go.Ground.data }, { on := 11, ground := Go.Ground.chain }, { on := 0, ground := Go.Ground.phase }, { on := 1, ground := Go.Ground.phase }, { on := 2, ground := Go.Ground.phase }, { on := 3, ground := Go.Ground.phase }, { on := 4, ground := Go.Ground.phase }, { on := 5, ground := Go.Ground.phase }, { on := 6, ground := Go.Ground.phase }, { on := 7, ground := Go.Ground.phase }, { on := 8, ground := Go.Ground.phase }, { on := 9, ground := Go.Ground.phase }, { on := 10, ground := Go.Ground.phase }, { on := 11, ground := Go.Ground.phase }, { on := 12, ground := Go.Ground.phase }, { on := 13, ground := Go.Ground.phase }, { on := 14, ground := Go.Ground.phase }, { on := 15, ground := Go.Ground.phase }, { on := 16, ground := Go.Ground.phase }, { on := 17, ground := Go.Ground.phase }, { on := 18, ground := Go.Ground.phase }, { on := 19, ground := Go.Ground.phase }, { on := 20, ground := Go.Ground.phase }, { on := 21, ground := Go.Ground.phase }, { on := 22, ground := Go.Ground.phase }, { on := 23, ground := Go.Ground.phase }, { on := 24, ground := Go.Ground.phase }, { on := 25, ground := Go.Ground.phase }, { on := 26, ground := Go.Ground.phase }, { on := 27, ground := Go.Ground.phase }, { on := 28, ground := Go.Ground.phase }, { on := 29, ground := Go.Ground.phase }, { on := 30, ground := Go.Ground.phase }, { on := 31, ground := Go.Ground.phase }, { on := 32, ground := Go.Ground.phase }, { on := 33, ground := Go.Ground.phase }, { on := 34, ground := Go.Ground.phase }], guard := none }) (v := ?a_4_7_11v35) rfl (by kernel_rfl) (by kernel_rfl) (by kernel_rfl) (fun _ _ _ h => hPan _ _ _ _ _ h) (Or.inl ⟨by rfl, ?a_4_7_11y35⟩) (by assumption) ?a_4_7_11r35
      case a_4_7_11y35 => (intro w hSw; (try dsimp only at hSw); go_simp; try (with_reducible rfl))
      case a_4_7_11r35 =>
      try simp only [Act.put, List.setIfInBounds_toArray, List.set_cons_zero, List.set_cons_succ]
      refine wpAnyH_done (by kernel_rfl) ?_ _
      obtain ⟨T1, hT1⟩ : ∃ z, z = add32 (add32 (add32 (add32 s.h (big1 s.e)) (ch32 s.e s.f s.g)) kk) x := ⟨_, rfl⟩
      have eT1 : IntKind.u32.wrap (IntKind.u32.wrap (IntKind.u32.wrap (IntKind.u32.wrap (s.h + bits .xor .u32 (bits .xor .u32 (rot32 26 s.e) (rot32 21 s.e)) (rot32 7 s.e)) + bits .xor .u32 (bits .and .u32 s.e s.f) (bits .and .u32 (bits .xor .u32 (if IntKind.u32.signed = true then -1 else IntKind.u32.max) s.e) s.g)) + kk) + x) = T1 := by
        rw [hT1]
        simp only [u32_wrap]
        rfl
      rw [eT1]
      have HT1 := Lib.hid hT1
      clear eT1 hT1
      generalize bits .xor .u32 (if IntKind.u32.signed = true then -1 else IntKind.u32.max) s.e = NE
      generalize bits .and .u32 NE s.g = NG
      generalize bits .and .u32 s.e s.f = EF
      generalize bits .xor .u32 EF NG = CH
      generalize bits .xor .u32 (rot32 26 s.e) (rot32 21 s.e) = B1
      generalize bits .xor .u32 B1 (rot32 7 s.e) = B2
      generalize IntKind.u32.wrap (s.h + B2) = A1
      generalize IntKind.u32.wrap (A1 + CH) = A2
      generalize IntKind.u32.wrap (A2 + kk) = A3
      obtain ⟨wd1, hwd1⟩ : ∃ z, z = wr.drew := ⟨_, rfl⟩
      rw [← hwd1]
      have o0 : wd1.cell? ⟨V, 0, none⟩ = some (.int .u32 s.a) := by rw [hwd1]; exact m0
      have o1 : wd1.cell? ⟨V, 1, none⟩ = some (.int .u32 s.b) := by rw [hwd1]; exact m1
      have o2 : wd1.cell? ⟨V, 2, none⟩ = some (.int .u32 s.c) := by rw [hwd1]; exact m2
      have HR1 := Lib.hid (show IRow wd1 V 63 .u32 s.list by rw [hwd1]; exact HROW.out)
      have HB1 := Lib.hid (show Below V w6 wd1 by rw [hwd1]; exact HBEL.out.drew)
      clear hwd1 hHeld m0 m1 m2 m3 m4 m5 m6 m7 kc wc HROW HBEL C1 C2 C3
      go_wp2_with fail
      refine wp_region_held_drew (S := (fun w' => w'.cell? ⟨V, 0, none⟩ = some (.int .u32 s.a) ∧ w'.cell? ⟨V, 1, none⟩ = some (.int .u32 s.b) ∧ w'.cell? ⟨V, 2, none⟩ = some (.int .u32 s.c))) (by kernel_rfl) ?_ (fun hHeld => ?_)
      · exact ⟨o0, o1, o2⟩
      refine wpAnyH_take (i := 0) (oi := { dst := some 148, op := Go.Op.indexAddr 63 (Go.Operand.tmp 13) (Go.Operand.const (Go.Value.int Go.IntKind.i64 0)), type := 0, pos := "ref.go:53", after := #[], guard := none }) (v := ?bv0) rfl (by kernel_rfl) (by kernel_rfl) (by kernel_rfl) (fun _ _ _ h => hPan _ _ _ _ _ h) (Or.inl ⟨by rfl, ?by0⟩) (by assumption) ?br0
      case by0 => (intro w hSw; (try dsimp only at hSw); go_simp; try (with_reducible rfl))
      case br0 =>
      try simp only [Act.put, List.setIfInBounds_toArray, List.set_cons_zero, List.set_cons_succ]
      refine wpAnyH_take (i := 1) (oi := { dst := some 149, op := Go.Op.load 61 (Go.Operand.tmp 148), type := 61, pos := "ref.go:53", after := #[{ on := 0, ground := Go.Ground.data }], guard := none }) (v := ?bv1) rfl (by kernel_rfl) (by kernel_rfl) (by kernel_rfl) (fun _ _ _ h => hPan _ _ _ _ _ h) (Or.inl ⟨by rfl, ?by1⟩) (by assumption) ?br1
      case by1 => (intro w hSw; (try dsimp only at hSw); go_simp; try (with_reducible rfl))
      case br1 =>
      try simp only [Act.put, List.setIfInBounds_toArray, List.set_cons_zero, List.set_cons_succ]
      refine wpAnyH_take (i := 3) (oi := { dst := some 151, op := Go.Op.indexAddr 63 (Go.Operand.tmp 13) (Go.Operand.const (Go.Value.int Go.IntKind.i64 0)), type := 0, pos := "ref.go:53", after := #[], guard := none }) (v := ?bv3) rfl (by kernel_rfl) (by kernel_rfl) (by kernel_rfl) (fun _ _ _ h => hPan _ _ _ _ _ h) (Or.inl ⟨by rfl, ?by3⟩) (by assumption) ?br3
      case by3 => (intro w hSw; (try dsimp only at hSw); go_simp; try (with_reducible rfl))
      case br3 =>
      try simp only [Act.put, List.setIfInBounds_toArray, List.set_cons_zero, List.set_cons_succ]
      refine wpAnyH_take (i := 4) (oi := { dst := some 152, op := Go.Op.load 61 (Go.Operand.tmp 151), type := 61, pos := "ref.go:53", after := #[{ on := 3, ground := Go.Ground.data }], guard := none }) (v := ?bv4) rfl (by kernel_rfl) (by kernel_rfl) (by kernel_rfl) (fun _ _ _ h => hPan _ _ _ _ _ h) (Or.inl ⟨by rfl, ?by4⟩) (by assumption) ?br4
      case by4 => (intro w hSw; (try dsimp only at hSw); go_simp; try (with_reducible rfl))
      case br4 =>
      try simp only [Act.put, List.setIfInBounds_toArray, List.set_cons_zero, List.set_cons_succ]
      refine wpAnyH_take (i := 7) (oi := { dst := some 155, op := Go.Op.indexAddr 63 (Go.Operand.tmp 13) (Go.Operand.const (Go.Value.int Go.IntKind.i64 0)), type := 0, pos := "ref.go:53", after := #[], guard := none }) (v := ?bv7) rfl (by kernel_rfl) (by kernel_rfl) (by kernel_rfl) (fun _ _ _ h => hPan _ _ _ _ _ h) (Or.inl ⟨by rfl, ?by7⟩) (by assumption) ?br7
      case by7 => (intro w hSw; (try dsimp only at hSw); go_simp; try (with_reducible rfl))
      case br7 =>
      try simp only [Act.put, List.setIfInBounds_toArray, List.set_cons_zero, List.set_cons_succ]
      refine wpAnyH_take (i := 8) (oi := { dst := some 156, op := Go.Op.load 61 (Go.Operand.tmp 155), type := 61, pos := "ref.go:53", after := #[{ on := 7, ground := Go.Ground.data }], guard := none }) (v := ?bv8) rfl (by kernel_rfl) (by kernel_rfl) (by kernel_rfl) (fun _ _ _ h => hPan _ _ _ _ _ h) (Or.inl ⟨by rfl, ?by8⟩) (by assumption) ?br8
      case by8 => (intro w hSw; (try dsimp only at hSw); go_simp; try (with_reducible rfl))
      case br8 =>
      try simp only [Act.put, List.setIfInBounds_toArray, List.set_cons_zero, List.set_cons_succ]
      refine wpAnyH_take (i := 11) (oi := { dst := some 159, op := Go.Op.indexAddr 63 (Go.Operand.tmp 13) (Go.Operand.const (Go.Value.int Go.IntKind.i64 0)), type := 0, pos := "ref.go:53", after := #[], guard := none }) (v := ?bv11) rfl (by kernel_rfl) (by kernel_rfl) (by kernel_rfl) (fun _ _ _ h => hPan _ _ _ _ _ h) (Or.inl ⟨by rfl, ?by11⟩) (by assumption) ?br11
      case by11 => (intro w hSw; (try dsimp only at hSw); go_simp; try (with_reducible rfl))
      case br11 =>
      try simp only [Act.put, List.setIfInBounds_toArray, List.set_cons_zero, List.set_cons_succ]
      refine wpAnyH_take (i := 12) (oi := { dst := some 160, op := Go.Op.load 61 (Go.Operand.tmp 159), type := 61, pos := "ref.go:53", after := #[{ on := 11, ground := Go.Ground.data }], guard := none }) (v := ?bv12) rfl (by kernel_rfl) (by kernel_rfl) (by kernel_rfl) (fun _ _ _ h => hPan _ _ _ _ _ h) (Or.inl ⟨by rfl, ?by12⟩) (by assumption) ?br12
      case by12 => (intro w hSw; (try dsimp only at hSw); go_simp; try (with_reducible rfl))
      case br12 =>
      try simp only [Act.put, List.setIfInBounds_toArray, List.set_cons_zero, List.set_cons_succ]
      refine wpAnyH_take (i := 13) (oi := { dst := some 161, op := Go.Op.indexAddr 63 (Go.Operand.tmp 13) (Go.Operand.const (Go.Value.int Go.IntKind.i64 1)), type := 0, pos := "ref.go:53", after := #[], guard := none }) (v := ?bv13) rfl (by kernel_rfl) (by kernel_rfl) (by kernel_rfl) (fun _ _ _ h => hPan _ _ _ _ _ h) (Or.inl ⟨by rfl, ?by13⟩) (by assumption) ?br13
      case by13 => (intro w hSw; (try dsimp only at hSw); go_simp; try (with_reducible rfl))
      case br13 =>
      try simp only [Act.put, List.setIfInBounds_toArray, List.set_cons_zero, List.set_cons_succ]
      refine wpAnyH_take (i := 14) (oi := { dst := some 162, op := Go.Op.load 61 (Go.Operand.tmp 161), type := 61, pos := "ref.go:53", after := #[{ on := 13, ground := Go.Ground.data }], guard := none }) (v := ?bv14) rfl (by kernel_rfl) (by kernel_rfl) (by kernel_rfl) (fun _ _ _ h => hPan _ _ _ _ _ h) (Or.inl ⟨by rfl, ?by14⟩) (by assumption) ?br14
      case by14 => (intro w hSw; (try dsimp only at hSw); go_simp; try (with_reducible rfl))
      case br14 =>
      try simp only [Act.put, List.setIfInBounds_toArray, List.set_cons_zero, List.set_cons_succ]
      refine wpAnyH_take (i := 15) (oi := { dst := some 163, op := Go.Op.binOp Go.BinOp.and 61 (Go.Operand.tmp 160) (Go.Operand.tmp 162) 61, type := 61, pos := "ref.go:53", after := #[{ on := 12, ground := Go.Ground.data }, { on := 14, ground := Go.Ground.data }], guard := none }) (v := ?bv15) rfl (by kernel_rfl) (by kernel_rfl) (by kernel_rfl) (fun _ _ _ h => hPan _ _ _ _ _ h) (Or.inl ⟨by rfl, ?by15⟩) (by assumption) ?br15
      case by15 => (intro w hSw; (try dsimp only at hSw); go_simp; try (with_reducible rfl))
      case br15 =>
      try simp only [Act.put, List.setIfInBounds_toArray, List.set_cons_zero, List.set_cons_succ]
      refine wpAnyH_take (i := 16) (oi := { dst := some 164, op := Go.Op.indexAddr 63 (Go.Operand.tmp 13) (Go.Operand.const (Go.Value.int Go.IntKind.i64 0)), type := 0, pos := "ref.go:53", after := #[], guard := none }) (v := ?bv16) rfl (by kernel_rfl) (by kernel_rfl) (by kernel_rfl) (fun _ _ _ h => hPan _ _ _ _ _ h) (Or.inl ⟨by rfl, ?by16⟩) (by assumption) ?br16
      case by16 => (intro w hSw; (try dsimp only at hSw); go_simp; try (with_reducible rfl))
      case br16 =>
      try simp only [Act.put, List.setIfInBounds_toArray, List.set_cons_zero, List.set_cons_succ]
      refine wpAnyH_take (i := 17) (oi := { dst := some 165, op := Go.Op.load 61 (Go.Operand.tmp 164), type := 61, pos := "ref.go:53", after := #[{ on := 16, ground := Go.Ground.data }], guard := none }) (v := ?bv17) rfl (by kernel_rfl) (by kernel_rfl) (by kernel_rfl) (fun _ _ _ h => hPan _ _ _ _ _ h) (Or.inl ⟨by rfl, ?by17⟩) (by assumption) ?br17
      case by17 => (intro w hSw; (try dsimp only at hSw); go_simp; try (with_reducible rfl))
      case br17 =>
      try simp only [Act.put, List.setIfInBounds_toArray, List.set_cons_zero, List.set_cons_succ]
      refine wpAnyH_take (i := 18) (oi := { dst := some 166, op := Go.Op.indexAddr 63 (Go.Operand.tmp 13) (Go.Operand.const (Go.Value.int Go.IntKind.i64 2)), type := 0, pos := "ref.go:53", after := #[], guard := none }) (v := ?bv18) rfl (by kernel_rfl) (by kernel_rfl) (by kernel_rfl) (fun _ _ _ h => hPan _ _ _ _ _ h) (Or.inl ⟨by rfl, ?by18⟩) (by assumption) ?br18
      case by18 => (intro w hSw; (try dsimp only at hSw); go_simp; try (with_reducible rfl))
      case br18 =>
      try simp only [Act.put, List.setIfInBounds_toArray, List.set_cons_zero, List.set_cons_succ]
      refine wpAnyH_take (i := 19) (oi := { dst := some 167, op := Go.Op.load 61 (Go.Operand.tmp 166), type := 61, pos := "ref.go:53", after := #[{ on := 18, ground := Go.Ground.data }], guard := none }) (v := ?bv19) rfl (by kernel_rfl) (by kernel_rfl) (by kernel_rfl) (fun _ _ _ h => hPan _ _ _ _ _ h) (Or.inl ⟨by rfl, ?by19⟩) (by assumption) ?br19
      case by19 => (intro w hSw; (try dsimp only at hSw); go_simp; try (with_reducible rfl))
      case br19 =>
      try simp only [Act.put, List.setIfInBounds_toArray, List.set_cons_zero, List.set_cons_succ]
      refine wpAnyH_take (i := 20) (oi := { dst := some 168, op := Go.Op.binOp Go.BinOp.and 61 (Go.Operand.tmp 165) (Go.Operand.tmp 167) 61, type := 61, pos := "ref.go:53", after := #[{ on := 17, ground := Go.Ground.data }, { on := 19, ground := Go.Ground.data }], guard := none }) (v := ?bv20) rfl (by kernel_rfl) (by kernel_rfl) (by kernel_rfl) (fun _ _ _ h => hPan _ _ _ _ _ h) (Or.inl ⟨by rfl, ?by20⟩) (by assumption) ?br20
      case by20 => (intro w hSw; (try dsimp only at hSw); go_simp; try (with_reducible rfl))
      case br20 =>
      try simp only [Act.put, List.setIfInBounds_toArray, List.set_cons_zero, List.set_cons_succ]
      refine wpAnyH_take (i := 21) (oi := { dst := some 169, op := Go.Op.binOp Go.BinOp.xor 61 (Go.Operand.tmp 163) (Go.Operand.tmp 168) 61, type := 61, pos := "ref.go:53", after := #[{ on := 15, ground := Go.Ground.data }, { on := 20, ground := Go.Ground.data }], guard := none }) (v := ?bv21) rfl (by kernel_rfl) (by kernel_rfl) (by kernel_rfl) (fun _ _ _ h => hPan _ _ _ _ _ h) (Or.inl ⟨by rfl, ?by21⟩) (by assumption) ?br21
      case by21 => (intro w hSw; (try dsimp only at hSw); go_simp; try (with_reducible rfl))
      case br21 =>
      try simp only [Act.put, List.setIfInBounds_toArray, List.set_cons_zero, List.set_cons_succ]
      refine wpAnyH_take (i := 22) (oi := { dst := some 170, op := Go.Op.indexAddr 63 (Go.Operand.tmp 13) (Go.Operand.const (Go.Value.int Go.IntKind.i64 1)), type := 0, pos := "ref.go:53", after := #[], guard := none }) (v := ?bv22) rfl (by kernel_rfl) (by kernel_rfl) (by kernel_rfl) (fun _ _ _ h => hPan _ _ _ _ _ h) (Or.inl ⟨by rfl, ?by22⟩) (by assumption) ?br22
      case by22 => (intro w hSw; (try dsimp only at hSw); go_simp; try (with_reducible rfl))
      case br22 =>
      try simp only [Act.put, List.setIfInBounds_toArray, List.set_cons_zero, List.set_cons_succ]
      refine wpAnyH_take (i := 23) (oi := { dst := some 171, op := Go.Op.load 61 (Go.Operand.tmp 170), type := 61, pos := "ref.go:53", after := #[{ on := 22, ground := Go.Ground.data }], guard := none }) (v := ?bv23) rfl (by kernel_rfl) (by kernel_rfl) (by kernel_rfl) (fun _ _ _ h => hPan _ _ _ _ _ h) (Or.inl ⟨by rfl, ?by23⟩) (by assumption) ?br23
      case by23 => (intro w hSw; (try dsimp only at hSw); go_simp; try (with_reducible rfl))
      case br23 =>
      try simp only [Act.put, List.setIfInBounds_toArray, List.set_cons_zero, List.set_cons_succ]
      refine wpAnyH_take (i := 24) (oi := { dst := some 172, op := Go.Op.indexAddr 63 (Go.Operand.tmp 13) (Go.Operand.const (Go.Value.int Go.IntKind.i64 2)), type := 0, pos := "ref.go:53", after := #[], guard := none }) (v := ?bv24) rfl (by kernel_rfl) (by kernel_rfl) (by kernel_rfl) (fun _ _ _ h => hPan _ _ _ _ _ h) (Or.inl ⟨by rfl, ?by24⟩) (by assumption) ?br24
      case by24 => (intro w hSw; (try dsimp only at hSw); go_simp; try (with_reducible rfl))
      case br24 =>
      try simp only [Act.put, List.setIfInBounds_toArray, List.set_cons_zero, List.set_cons_succ]
      refine wpAnyH_take (i := 25) (oi := { dst := some 173, op := Go.Op.load 61 (Go.Operand.tmp 172), type := 61, pos := "ref.go:53", after := #[{ on := 24, ground := Go.Ground.data }], guard := none }) (v := ?bv25) rfl (by kernel_rfl) (by kernel_rfl) (by kernel_rfl) (fun _ _ _ h => hPan _ _ _ _ _ h) (Or.inl ⟨by rfl, ?by25⟩) (by assumption) ?br25
      case by25 => (intro w hSw; (try dsimp only at hSw); go_simp; try (with_reducible rfl))
      case br25 =>
      try simp only [Act.put, List.setIfInBounds_toArray, List.set_cons_zero, List.set_cons_succ]
      refine wpAnyH_take (i := 26) (oi := { dst := some 174, op := Go.Op.binOp Go.BinOp.and 61 (Go.Operand.tmp 171) (Go.Operand.tmp 173) 61, type := 61, pos := "ref.go:53", after := #[{ on := 23, ground := Go.Ground.data }, { on := 25, ground := Go.Ground.data }], guard := none }) (v := ?bv26) rfl (by kernel_rfl) (by kernel_rfl) (by kernel_rfl) (fun _ _ _ h => hPan _ _ _ _ _ h) (Or.inl ⟨by rfl, ?by26⟩) (by assumption) ?br26
      case by26 => (intro w hSw; (try dsimp only at hSw); go_simp; try (with_reducible rfl))
      case br26 =>
      try simp only [Act.put, List.setIfInBounds_toArray, List.set_cons_zero, List.set_cons_succ]
      refine wpAnyH_take (i := 27) (oi := { dst := some 175, op := Go.Op.binOp Go.BinOp.xor 61 (Go.Operand.tmp 169) (Go.Operand.tmp 174) 61, type := 61, pos := "ref.go:53", after := #[{ on := 21, ground := Go.Ground.data }, { on := 26, ground := Go.Ground.data }], guard := none }) (v := ?bv27) rfl (by kernel_rfl) (by kernel_rfl) (by kernel_rfl) (fun _ _ _ h => hPan _ _ _ _ _ h) (Or.inl ⟨by rfl, ?by27⟩) (by assumption) ?br27
      case by27 => (intro w hSw; (try dsimp only at hSw); go_simp; try (with_reducible rfl))
      case br27 =>
      try simp only [Act.put, List.setIfInBounds_toArray, List.set_cons_zero, List.set_cons_succ]
      refine wpAnyH_ready (rs := [2]) (by kernel_rfl) (by simp) ?_
      refine AllReadyH.cons (o := { dst := some 150, op := Go.Op.call { callee := Go.Callee.value (Go.Operand.func 39), args := #[Go.Operand.tmp 149, Go.Operand.const (Go.Value.int Go.IntKind.i64 30)], argTypes := #[61, 3] }, type := 61, pos := "ref.go:53", after := #[{ on := 1, ground := Go.Ground.data }], guard := none }) rfl (fun K hK => ?_) (AllReadyH.nil)
      go_simp
      refine (C4.out _).mono ?_
      rintro e w7 ⟨rfl, rfl⟩
      go_simp
      refine hK.out _ _ ?_ (fun hHeld => ?_)
      · exact hHeld
      clear hK K
      try simp only [Act.put, List.setIfInBounds_toArray, List.set_cons_zero, List.set_cons_succ]
      refine wpAnyH_ready (rs := [5]) (by kernel_rfl) (by simp) ?_
      refine AllReadyH.cons (o := { dst := some 153, op := Go.Op.call { callee := Go.Callee.value (Go.Operand.func 39), args := #[Go.Operand.tmp 152, Go.Operand.const (Go.Value.int Go.IntKind.i64 19)], argTypes := #[61, 3] }, type := 61, pos := "ref.go:53", after := #[{ on := 4, ground := Go.Ground.data }, { on := 2, ground := Go.Ground.chain }], guard := none }) rfl (fun K hK => ?_) (AllReadyH.nil)
      go_simp
      refine (C5.out _).mono ?_
      rintro e w7 ⟨rfl, rfl⟩
      go_simp
      refine hK.out _ _ ?_ (fun hHeld => ?_)
      · exact hHeld
      clear hK K
      try simp only [Act.put, List.setIfInBounds_toArray, List.set_cons_zero, List.set_cons_succ]
      refine wpAnyH_take (i := 6) (oi := { dst := some 154, op := Go.Op.binOp Go.BinOp.xor 61 (Go.Operand.tmp 150) (Go.Operand.tmp 153) 61, type := 61, pos := "ref.go:53", after := #[{ on := 2, ground := Go.Ground.data }, { on := 5, ground := Go.Ground.data }], guard := none }) (v := ?b_2_5v6) rfl (by kernel_rfl) (by kernel_rfl) (by kernel_rfl) (fun _ _ _ h => hPan _ _ _ _ _ h) (Or.inl ⟨by rfl, ?b_2_5y6⟩) (by assumption) ?b_2_5r6
      case b_2_5y6 => (intro w hSw; (try dsimp only at hSw); go_simp; try (with_reducible rfl))
      case b_2_5r6 =>
      try simp only [Act.put, List.setIfInBounds_toArray, List.set_cons_zero, List.set_cons_succ]
      refine wpAnyH_ready (rs := [9]) (by kernel_rfl) (by simp) ?_
      refine AllReadyH.cons (o := { dst := some 157, op := Go.Op.call { callee := Go.Callee.value (Go.Operand.func 39), args := #[Go.Operand.tmp 156, Go.Operand.const (Go.Value.int Go.IntKind.i64 10)], argTypes := #[61, 3] }, type := 61, pos := "ref.go:53", after := #[{ on := 8, ground := Go.Ground.data }, { on := 5, ground := Go.Ground.chain }], guard := none }) rfl (fun K hK => ?_) (AllReadyH.nil)
      go_simp
      refine (C6.out _).mono ?_
      rintro e w7 ⟨rfl, rfl⟩
      go_simp
      refine hK.out _ _ ?_ (fun hHeld => ?_)
      · exact hHeld
      clear hK K
      try simp only [Act.put, List.setIfInBounds_toArray, List.set_cons_zero, List.set_cons_succ]
      refine wpAnyH_take (i := 10) (oi := { dst := some 158, op := Go.Op.binOp Go.BinOp.xor 61 (Go.Operand.tmp 154) (Go.Operand.tmp 157) 61, type := 61, pos := "ref.go:53", after := #[{ on := 6, ground := Go.Ground.data }, { on := 9, ground := Go.Ground.data }], guard := none }) (v := ?b_2_5_9v10) rfl (by kernel_rfl) (by kernel_rfl) (by kernel_rfl) (fun _ _ _ h => hPan _ _ _ _ _ h) (Or.inl ⟨by rfl, ?b_2_5_9y10⟩) (by assumption) ?b_2_5_9r10
      case b_2_5_9y10 => (intro w hSw; (try dsimp only at hSw); go_simp; try (with_reducible rfl))
      case b_2_5_9r10 =>
      try simp only [Act.put, List.setIfInBounds_toArray, List.set_cons_zero, List.set_cons_succ]
      refine wpAnyH_take (i := 28) (oi := { dst := some 176, op := Go.Op.binOp Go.BinOp.add 61 (Go.Operand.tmp 158) (Go.Operand.tmp 175) 61, type := 61, pos := "ref.go:53", after := #[{ on := 10, ground := Go.Ground.data }, { on := 27, ground := Go.Ground.data }], guard := none }) (v := ?b_2_5_9v28) rfl (by kernel_rfl) (by kernel_rfl) (by kernel_rfl) (fun _ _ _ h => hPan _ _ _ _ _ h) (Or.inl ⟨by rfl, ?b_2_5_9y28⟩) (by assumption) ?b_2_5_9r28
      case b_2_5_9y28 => (intro w hSw; (try dsimp only at hSw); go_simp; try (with_reducible rfl))
      case b_2_5_9r28 =>
      try simp only [Act.put, List.setIfInBounds_toArray, List.set_cons_zero, List.set_cons_succ]
      refine wpAnyH_take (i := 29) (oi := { dst := some 16, op := Go.Op.assign (Go.Operand.tmp 176), type := 61, pos := "ref.go:53", after := #[{ on := 28, ground := Go.Ground.data }, { on := 9, ground := Go.Ground.chain }, { on := 0, ground := Go.Ground.phase }, { on := 1, ground := Go.Ground.phase }, { on := 2, ground := Go.Ground.phase }, { on := 3, ground := Go.Ground.phase }, { on := 4, ground := Go.Ground.phase }, { on := 5, ground := Go.Ground.phase }, { on := 6, ground := Go.Ground.phase }, { on := 7, ground := Go.Ground.phase }, { on := 8, ground := Go.Ground.phase }, { on := 9, ground := Go.Ground.phase }, { on := 10, ground := Go.Ground.phase }, { on := 11, ground := Go.Ground.phase }, { on := 12, ground := Go.Ground.phase }, { on := 13, ground := Go.Ground.phase }, { on := 14, ground := Go.Ground.phase }, { on := 15, ground := Go.Ground.phase }, { on := 16, ground := Go.Ground.phase }, { on := 17, ground := Go.Ground.phase }, { on := 18, ground := Go.Ground.phase }, { on := 19, ground := Go.Ground.phase }, { on := 20, ground := Go.Ground.phase }, { on := 21, ground := Go.Ground.phase }, { on := 22, ground := Go.Ground.phase }, { on := 23, ground := Go.Ground.phase }, { on := 24, ground := Go.Ground.phase }, { on := 25, ground := Go.Ground.phase }, { on := 26, ground := Go.Ground.phase }, { on := 27, ground := Go.Ground.phase }, { on := 28, ground := Go.Ground.phase }], guard := none }) (v := ?b_2_5_9v29) rfl (by kernel_rfl) (by kernel_rfl) (by kernel_rfl) (fun _ _ _ h => hPan _ _ _ _ _ h) (Or.inl ⟨by rfl, ?b_2_5_9y29⟩) (by assumption) ?b_2_5_9r29
      case b_2_5_9y29 => (intro w hSw; (try dsimp only at hSw); go_simp; try (with_reducible rfl))
      case b_2_5_9r29 =>
      try simp only [Act.put, List.setIfInBounds_toArray, List.set_cons_zero, List.set_cons_succ]
      refine wpAnyH_done (by kernel_rfl) ?_ _
      obtain ⟨T2, hT2⟩ : ∃ z, z = add32 (big0 s.a) (maj32 s.a s.b s.c) := ⟨_, rfl⟩
      have eT2 : IntKind.u32.wrap (bits .xor .u32 (bits .xor .u32 (rot32 30 s.a) (rot32 19 s.a)) (rot32 10 s.a) + bits .xor .u32 (bits .xor .u32 (bits .and .u32 s.a s.b) (bits .and .u32 s.a s.c)) (bits .and .u32 s.b s.c)) = T2 := by
        rw [hT2]
        simp only [u32_wrap]
        rfl
      rw [eT2]
      have HT2 := Lib.hid hT2
      clear eT2 hT2
      generalize bits .xor .u32 (rot32 30 s.a) (rot32 19 s.a) = B3
      generalize bits .xor .u32 B3 (rot32 10 s.a) = B4
      generalize bits .and .u32 s.a s.b = M1
      generalize bits .and .u32 s.a s.c = M2
      generalize bits .and .u32 s.b s.c = M3
      generalize bits .xor .u32 M1 M2 = M4
      generalize bits .xor .u32 M4 M3 = M5
      obtain ⟨wd, hwd⟩ : ∃ z, z = wd1.drew := ⟨_, rfl⟩
      rw [← hwd]
      have hr2 : IRow wd V 63 .u32 s.list := by rw [hwd]; exact HR1.out
      have n0 := hr2.cell (i := 0) rfl
      have n1 := hr2.cell (i := 1) rfl
      have n2 := hr2.cell (i := 2) rfl
      have n3 := hr2.cell (i := 3) rfl
      have n4 := hr2.cell (i := 4) rfl
      have n5 := hr2.cell (i := 5) rfl
      have n6 := hr2.cell (i := 6) rfl
      have HR2 := Lib.hid hr2
      have HB2 := Lib.hid (show Below V w6 wd by rw [hwd]; exact HB1.out.drew)
      clear hwd hHeld hr2 o0 o1 o2 HR1 HB1 C4 C5 C6
      go_wp2_with (refine wpList_store_irow rfl 63 (.tmp 13) (.tmp 196) rfl (g := V) (t := 63) (k := .u32) (xs := s.list) (ys := [(T1 + T2) % 4294967296, s.a, s.b, s.c, (s.d + T1) % 4294967296, s.e, s.f, s.g]) rfl rfl HR2.out info_8 rfl ?_)
      have er : (rnd kk x s).list = [(T1 + T2) % 4294967296, s.a, s.b, s.c, (s.d + T1) % 4294967296, s.e, s.f, s.g] := by rw [HT1.out, HT2.out]; rfl
      refine ⟨⟨t + 1, rnd kk x s, by omega, Lib.hid ?_, by go_num, ?_, ?_⟩, by simp [intOf]; omega⟩
      · rw [rounds, ← hst.out, List.getD_eq_getElem?_getD, HK.out, List.getD_eq_getElem?_getD, HX.out]
        rfl
      · rw [er]
        exact setRow_irow (ys := [(T1 + T2) % 4294967296, s.a, s.b, s.c, (s.d + T1) % 4294967296, s.e, s.f, s.g]) HR2.out
      · exact below_setRow HB2.out (Nat.le_refl _) _
    · obtain rfl : t = 64 := by omega
      have e64 : ((64 : Nat) : Int) = 64 := rfl
      rw [e64]
      have HR := Lib.hid (show IRow wr V 63 .u32 (rounds k256 (W64 bs) 64 s0).list by rw [← hst.out]; exact hrow)
      have HBEL := Lib.hid hbel
      clear hrow hbel hst e64 h64 ht
      go_wp2_with fail
      exact HQ.out _ _ _ _ _ _ _ _ _ _ _ _ _ _ _ _ _ _ _ _ _ _ _ _ _ _ _ _ _ _ _ _ _ _ _ _ _ _ _ _ _ _ _ _ _ _ _ _ _ _ _ _ _ _ _ _ _ _ _ _ _ _ _ _ _ _ _ _ _ _ _ _ _ _ _ _ _ _ _ _ _ _ _ _ _ _ _ _ _ _ _ _ HR.out HBEL.out
end Go.Proofs.YtehodjbjioepnaaDoor
