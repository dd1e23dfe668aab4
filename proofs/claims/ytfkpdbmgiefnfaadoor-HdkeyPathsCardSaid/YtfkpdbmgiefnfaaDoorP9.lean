/-
  Texts joined: S5Step, S5Took, S5InRow. Conditions: those of each.
-/
import Derived.Test.YtfkpdbmgiefnfaaDoorP8
import Derived.Laws.CopyRow
import Derived.Test.YtfkpdbmgiefnfaaDoorP5
import Derived.Test.YtfkpdbmgiefnfaaDoorP6
/-
  hash.step512, walked. Conditions: the block has 128 bytes; the words are of 64 bits; the roots are laid.
-/
namespace Go.Proofs.YtfkpdbmgiefnfaaDoor.S5
open Go.RowKit

theorem k512_at {t : Nat} (h : t < 80) : ∃ k, k512[t]? = some k ∧ k512.getD t 0 = k := by
  have hl : k512.length = 80 := rfl
  refine ⟨k512[t]'(by omega), List.getElem?_eq_getElem _, ?_⟩
  rw [List.getD_eq_getElem?_getD, List.getElem?_eq_getElem (by omega)]
  rfl
theorem info_8 : (Tryd.prog.info? 90).map (·.size) = some 8 := by kernel_rfl

/-- The first i words with what a block gives them. -/
def mix (l v : List Int) (i : Nat) : List Int := (List.range 8).map fun k => if k < i then add64 (l.getD k 0) (v.getD k 0) else l.getD k 0
theorem idx8 (a b c d e f g h : Int) {i : Nat} (hi : i < 8) : ∃ v, [a, b, c, d, e, f, g, h][i]? = some v ∧ ∀ w, (Instr.index 90 (.agg #[.int .u64 a, .int .u64 b, .int .u64 c, .int .u64 d, .int .u64 e, .int .u64 f, .int .u64 g, .int .u64 h]) (.int .i64 i)).run Tryd.prog w = .ok (.int .u64 v) w := by
  obtain rfl | rfl | rfl | rfl | rfl | rfl | rfl | rfl : i = 0 ∨ i = 1 ∨ i = 2 ∨ i = 3 ∨ i = 4 ∨ i = 5 ∨ i = 6 ∨ i = 7 := by omega
  · exact ⟨_, rfl, fun w => by kernel_rfl⟩
  · exact ⟨_, rfl, fun w => by kernel_rfl⟩
  · exact ⟨_, rfl, fun w => by kernel_rfl⟩
  · exact ⟨_, rfl, fun w => by kernel_rfl⟩
  · exact ⟨_, rfl, fun w => by kernel_rfl⟩
  · exact ⟨_, rfl, fun w => by kernel_rfl⟩
  · exact ⟨_, rfl, fun w => by kernel_rfl⟩
  · exact ⟨_, rfl, fun w => by kernel_rfl⟩
theorem mix_at (l v : List Int) {i : Nat} (hi : i < 8) : (mix l v i)[i]? = some (l.getD i 0) := by
  obtain rfl | rfl | rfl | rfl | rfl | rfl | rfl | rfl : i = 0 ∨ i = 1 ∨ i = 2 ∨ i = 3 ∨ i = 4 ∨ i = 5 ∨ i = 6 ∨ i = 7 := by omega
  all_goals rfl
theorem mix_next (l v : List Int) {i : Nat} (hi : i < 8) : (mix l v i).set i (add64 (l.getD i 0) (v.getD i 0)) = mix l v (i + 1) := by
  obtain rfl | rfl | rfl | rfl | rfl | rfl | rfl | rfl : i = 0 ∨ i = 1 ∨ i = 2 ∨ i = 3 ∨ i = 4 ∨ i = 5 ∨ i = 6 ∨ i = 7 := by omega
  all_goals rfl
set_option maxRecDepth 100000 in
set_option maxHeartbeats 6400000 in
theorem step512_any (b o c : Nat) (s0 : S8) (bs : List UInt8) (w : World) (hs : s0.Ok) (hl : bs.length = 128) (hc : 128 ≤ c) (hcm : c ≤ 9223372036854775807) (hb : b < w.heap.size) (hcell : ∀ (j : Nat) (u : UInt8), bs[j]? = some u → w.cell? ⟨b, o + j, none⟩ = some (bv u)) (hcube : CubeIs w) :
    Calls Tryd.prog 42 #[.agg (s0.list.map (Value.int .u64)).toArray, .slice (some ⟨b, o, none⟩) 128 c] w fun e w' => e = .returned (.agg ((comp512 s0 bs).list.map (Value.int .u64)).toArray) ∧ Below w.heap.size w w' := by
  have HC := Lib.hid hcell
  have HL := Lib.hid hl
  have HK := Lib.hid hcube
  have HS := Lib.hid hs
  clear hcell hl hcube hs
  have hz80 := zero_80
  go_enter Tryd.func42, Tryd.ntmps42
  go_wp2_with fail
  have rA := IRow.new w 90 .u64 s0.list
  have bA : Below w.heap.size w (w.alloc (.cells (s0.list.map (Value.int .u64)).toArray 90)) := (Below.refl _ w).alloc (Nat.le_refl _) _
  have sA : (w.alloc (.cells (s0.list.map (Value.int .u64)).toArray 90)).heap.size = w.heap.size + 1 := by simp
  generalize w.alloc (.cells (s0.list.map (Value.int .u64)).toArray 90) = wA at *
  have rB := IRow.new wA 90 .u64 (List.replicate 8 0)
  have bB : Below (w.heap.size + 1) wA (wA.alloc (.cells ((List.replicate 8 (0 : Int)).map (Value.int .u64)).toArray 90)) := (Below.refl _ wA).alloc (by omega) _
  have sB : (wA.alloc (.cells ((List.replicate 8 (0 : Int)).map (Value.int .u64)).toArray 90)).heap.size = w.heap.size + 2 := by simp; omega
  rw [sA] at rB
  obtain ⟨wB, hwB⟩ : ∃ x, x = wA.alloc (.cells ((List.replicate 8 (0 : Int)).map (Value.int .u64)).toArray 90) := ⟨_, rfl⟩
  rw [← hwB] at rB bB sB
  change Calls _ _ _ (wA.alloc (.cells ((List.replicate 8 (0 : Int)).map (Value.int .u64)).toArray 90)) _
  rw [← hwB]
  clear hwB
  have rA2 := rA.below bB (Nat.lt_succ_self _)
  have hB0 : Below w.heap.size w wB := bA.trans (bB.mono (by omega))
  refine (sched_any b o c bs wB HL.out hc hcm (by omega) (fun j u hu => (hB0.cell (p := ⟨b, o + j, none⟩) hb).trans (HC.out j u hu))).mono ?_
  rintro e w3 ⟨rfl, hb3⟩
  rw [sB] at hb3
  have rA3 := rA2.below hb3 (by omega)
  have rB3 := rB.below hb3 (by omega)
  have s3 : w.heap.size + 2 ≤ w3.heap.size := by have := hb3.size; omega
  have rW := IRow.new w3 103 .u64 (List.replicate 80 0)
  have HRW := Lib.hid rW
  clear rW rA rA2 rB
  go_wp2_with (first
    | (refine wpList_store_irow rfl 103 (.tmp 5) (.tmp 22) rfl (g := w3.heap.size) (t := 103) (k := .u64) (xs := List.replicate 80 0) (ys := W80 bs) rfl rfl HRW.out (by rw [W80_length]; exact info_80) (by rw [W80_length]; rfl) ?_))
  have rW4 : IRow ((w3.alloc (.cells ((List.replicate 80 (0 : Int)).map (Value.int .u64)).toArray 103)).setRow w3.heap.size ((W80 bs).map (Value.int .u64)).toArray) w3.heap.size 103 .u64 (W80 bs) := setRow_irow HRW.out
  have b4 : Below w3.heap.size w3 ((w3.alloc (.cells ((List.replicate 80 (0 : Int)).map (Value.int .u64)).toArray 103)).setRow w3.heap.size ((W80 bs).map (Value.int .u64)).toArray) := below_setRow ((Below.refl _ w3).alloc (Nat.le_refl _) _) (Nat.le_refl _) _
  change Code.wp _ _ _ _ ((w3.alloc (.cells ((List.replicate 80 (0 : Int)).map (Value.int .u64)).toArray 103)).setRow w3.heap.size ((W80 bs).map (Value.int .u64)).toArray)
  obtain ⟨w4, hw4⟩ : ∃ x, x = (w3.alloc (.cells ((List.replicate 80 (0 : Int)).map (Value.int .u64)).toArray 103)).setRow w3.heap.size ((W80 bs).map (Value.int .u64)).toArray := ⟨_, rfl⟩
  rw [← hw4] at rW4 b4 ⊢
  clear hw4 HRW
  have rA4 := rA3.below b4 (by omega)
  have rB4 := rB3.below b4 (by omega)
  have hB4 : Below w.heap.size w w4 := hB0.trans ((hb3.mono (by omega)).trans (b4.mono (by omega)))
  have m0 := rA4.cell (i := 0) rfl
  have m1 := rA4.cell (i := 1) rfl
  have m2 := rA4.cell (i := 2) rfl
  have m3 := rA4.cell (i := 3) rfl
  have m4 := rA4.cell (i := 4) rfl
  have m5 := rA4.cell (i := 5) rfl
  have m6 := rA4.cell (i := 6) rfl
  have m7 := rA4.cell (i := 7) rfl
  have HA4 := Lib.hid rA4
  have HB4 := Lib.hid rB4
  have HW4 := Lib.hid rW4
  have HL4 := Lib.hid hB4
  have S4 := Lib.hid (⟨sA, sB, s3, b4.size⟩ : wA.heap.size = w.heap.size + 1 ∧ wB.heap.size = w.heap.size + 2 ∧ w.heap.size + 2 ≤ w3.heap.size ∧ w3.heap.size ≤ w4.heap.size)
  clear rA3 rB3 rA4 rB4 rW4 hB4 hB0 bA bB hb3 sA sB s3 b4
  go_quiet (fail)
  go_wp2_with fail
  clear m0 m1 m2 m3 m4 m5 m6 m7
  go_loopw [39, 6, 7, 8, 9, 10, 11, 12, 13] (fun j va vb vc vd ve vf vg vh wr => ∃ (t : Nat) (s : S8), t ≤ 80 ∧ Hid (s = rounds k512 (W80 bs) t s0) ∧ j = .int .i64 t ∧ va = .int .u64 s.a ∧ vb = .int .u64 s.b ∧ vc = .int .u64 s.c ∧ vd = .int .u64 s.d ∧ ve = .int .u64 s.e ∧ vf = .int .u64 s.f ∧ vg = .int .u64 s.g ∧ vh = .int .u64 s.h ∧
      IRow wr w.heap.size 90 .u64 s0.list ∧ IRow wr (w.heap.size + 1) 90 .u64 (List.replicate 8 0) ∧ IRow wr w3.heap.size 103 .u64 (W80 bs) ∧ Below w.heap.size w wr ∧ w3.heap.size ≤ wr.heap.size) (fun j _ _ _ _ _ _ _ _ _ => 80 - (intOf j).toNat)
  case atStart => exact ⟨0, s0, by omega, Lib.hid rfl, rfl, rfl, rfl, rfl, rfl, rfl, rfl, rfl, rfl, HA4.out, HB4.out, HW4.out, ⟨HL4.out.os, HL4.out.tape, HL4.out.output, HL4.out.size, HL4.out.block⟩, S4.out.2.2.2⟩
  case round =>
    obtain ⟨t, s, ht, hst, rfl, rfl, rfl, rfl, rfl, rfl, rfl, rfl, rfl, hra, hrb, hrw, hbel, hsz⟩ := hrel
    by_cases h64 : t < 80
    · obtain ⟨kk, hk, hk2⟩ := k512_at h64
      have kc := (HK.out.below hbel HK.out.1).2 t kk hk
      obtain ⟨x, hx⟩ : ∃ x, (W80 bs)[t]? = some x := ⟨_, List.getElem?_eq_getElem (by rw [W80_length]; omega)⟩
      have wc := hrw.cell hx
      have bt : (t : Int) < 80 := by omega
      have hok : s.Ok := by rw [hst.out]; exact rounds_ok _ _ _ HS.out
      have C1 := Lib.hid (fun W => rotl_any s.e (-14) 18446744073709551602 50 W hok.e (by decide) (by decide) (by decide))
      have C2 := Lib.hid (fun W => rotl_any s.e (-18) 18446744073709551598 46 W hok.e (by decide) (by decide) (by decide))
      have C3 := Lib.hid (fun W => rotl_any s.e (-41) 18446744073709551575 23 W hok.e (by decide) (by decide) (by decide))
      have C4 := Lib.hid (fun W => rotl_any s.a (-28) 18446744073709551588 36 W hok.a (by decide) (by decide) (by decide))
      have C5 := Lib.hid (fun W => rotl_any s.a (-34) 18446744073709551582 30 W hok.a (by decide) (by decide) (by decide))
      have C6 := Lib.hid (fun W => rotl_any s.a (-39) 18446744073709551577 25 W hok.a (by decide) (by decide) (by decide))
      have HX := Lib.hid hx
      have HK2 := Lib.hid hk2
      have HRA := Lib.hid hra
      have HRB := Lib.hid hrb
      have HRW := Lib.hid hrw
      have HBEL := Lib.hid hbel
      have HSZ := Lib.hid hsz
      have HU := Lib.hid u64_wrap
      clear hx hk2 hra hrb hrw hbel hsz hk hok
      go_wp2_with fail
      refine (C1.out _).mono ?_
      rintro e w5 ⟨rfl, rfl⟩
      go_wp2_with fail
      refine (C2.out _).mono ?_
      rintro e w5 ⟨rfl, rfl⟩
      go_wp2_with fail
      refine (C3.out _).mono ?_
      rintro e w5 ⟨rfl, rfl⟩
      go_wp2_with fail
      obtain ⟨S1, hS1⟩ : ∃ z, z = bits .xor .u64 (bits .xor .u64 (rot64 50 s.e) (rot64 46 s.e)) (rot64 23 s.e) := ⟨_, rfl⟩
      rw [← hS1]
      have HS1 := Lib.hid hS1
      clear hS1
      refine wp_region_still_lit (by kernel_rfl) (by kernel_rfl) ?_
      iterate 12 still_step
      obtain ⟨CH, hCH⟩ : ∃ z, z = bits .xor .u64 (bits .and .u64 s.e s.f) (bits .and .u64 (bits .xor .u64 (if IntKind.u64.signed = true then -1 else IntKind.u64.max) s.e) s.g) := ⟨_, rfl⟩
      obtain ⟨A1, hA1⟩ : ∃ z, z = IntKind.u64.wrap (s.h + S1) := ⟨_, rfl⟩
      obtain ⟨A2, hA2⟩ : ∃ z, z = IntKind.u64.wrap (A1 + CH) := ⟨_, rfl⟩
      rw [← hCH, ← hA1, ← hA2]
      have HCH := Lib.hid hCH
      have HA1 := Lib.hid hA1
      have HA2 := Lib.hid hA2
      clear hCH hA1 hA2
      iterate 4 still_step
      obtain ⟨A3, hA3⟩ : ∃ z, z = IntKind.u64.wrap (A2 + kk) := ⟨_, rfl⟩
      rw [← hA3]
      have HA3 := Lib.hid hA3
      clear hA3
      iterate 4 still_step
      obtain ⟨T1, hT1⟩ : ∃ z, z = IntKind.u64.wrap (A3 + x) := ⟨_, rfl⟩
      rw [← hT1]
      have HT0 := Lib.hid hT1
      clear hT1
      still_step
      refine wpStill_nil ?_
      have HT1 := Lib.hid (show T1 = add64 (add64 (add64 (add64 s.h (big1 s.e)) (ch64 s.e s.f s.g)) kk) x by
        rw [HT0.out, HA3.out, HA2.out, HA1.out, HCH.out, HS1.out]
        simp only [u64_wrap]
        rfl)
      clear HT0 HA3 HA2 HA1 HCH HS1
      change Exit.then _ _ Exit.normal _ wr.drew
      obtain ⟨wd, hwd⟩ : ∃ x, x = wr.drew := ⟨_, rfl⟩
      rw [← hwd]
      have HRA2 : Hid (IRow wd w.heap.size 90 .u64 s0.list) := Lib.hid (by rw [hwd]; exact HRA.out)
      have HRB2 : Hid (IRow wd (w.heap.size + 1) 90 .u64 (List.replicate 8 0)) := Lib.hid (by rw [hwd]; exact HRB.out)
      have HRW2 : Hid (IRow wd w3.heap.size 103 .u64 (W80 bs)) := Lib.hid (by rw [hwd]; exact HRW.out)
      have HBEL2 : Hid (Below w.heap.size w wd) := Lib.hid (by rw [hwd]; exact HBEL.out.drew)
      have HSZ2 : Hid (w3.heap.size ≤ wd.heap.size) := Lib.hid (by rw [hwd]; exact HSZ.out)
      clear hwd HRA HRB HRW HBEL HSZ kc wc
      generalize bits BinOp.xor IntKind.u64 (if IntKind.u64.signed = true then -1 else IntKind.u64.max) s.e = NE
      generalize bits BinOp.and IntKind.u64 NE s.g = NG
      go_wp2_with fail
      refine (C4.out _).mono ?_
      rintro e w5 ⟨rfl, rfl⟩
      go_wp2_with fail
      refine (C5.out _).mono ?_
      rintro e w5 ⟨rfl, rfl⟩
      go_wp2_with fail
      refine (C6.out _).mono ?_
      rintro e w5 ⟨rfl, rfl⟩
      go_wp2_with fail
      have HR := Lib.hid (show rnd kk x s = ⟨add64 T1 (add64 (big0 s.a) (maj64 s.a s.b s.c)), s.a, s.b, s.c, add64 s.d T1, s.e, s.f, s.g⟩ by rw [HT1.out]; rfl)
      refine ⟨⟨t + 1, rnd kk x s, by omega, Lib.hid ?_, by go_num, ?_, ?_, ?_, ?_, ?_, ?_, ?_, ?_, HRA2.out, HRB2.out, HRW2.out, HBEL2.out, HSZ2.out⟩, by simp [intOf]; omega⟩
      · rw [rounds, ← hst.out, HK2.out, List.getD_eq_getElem?_getD, HX.out]
        rfl
      all_goals (rw [HR.out]; try rfl)
    · obtain rfl : t = 80 := by omega
      have h64' : ((80 : Nat) : Int) = 80 := rfl
      rw [h64']
      have HRA := Lib.hid hra
      have HRB := Lib.hid hrb
      have HBEL := Lib.hid hbel
      have HST := Lib.hid hst.out
      clear h64' hra hrb hrw hbel hst hsz ht h64
      go_wp2_with fail
      go_loopw [113] (fun j wr => ∃ i : Nat, i ≤ 8 ∧ j = .int .i64 i ∧ IRow wr w.heap.size 90 .u64 (mix s0.list s.list i) ∧ IRow wr (w.heap.size + 1) 90 .u64 (List.replicate 8 0) ∧ Below w.heap.size w wr) (fun j _ => 8 - (intOf j).toNat)
      case atStart => exact ⟨0, by omega, rfl, HRA.out, HRB.out, HBEL.out⟩
      case round =>
        obtain ⟨i, hi, rfl, hra, hrb, hbel⟩ := hrel
        by_cases h8 : i < 8
        · obtain ⟨v, hv, hix⟩ := idx8 s.a s.b s.c s.d s.e s.f s.g s.h h8
          obtain ⟨l, hl⟩ : ∃ l, l = s0.list.getD i 0 := ⟨_, rfl⟩
          have hat := hra.cell (mix_at s0.list s.list h8)
          rw [← hl] at hat
          have hvd : s.list.getD i 0 = v := by rw [List.getD_eq_getElem?_getD]; exact congrArg (·.getD 0) hv
          have hset := hra.set i (add64 (s0.list.getD i 0) (s.list.getD i 0))
          rw [mix_next _ _ h8, hvd, ← hl] at hset
          have hfr := hra.free i
          have b8 : (i : Int) < 8 := by omega
          have HSET := Lib.hid hset
          have HRB2 := Lib.hid hrb
          have HBEL2 := Lib.hid hbel
          have HU := Lib.hid u64_wrap
          clear hv hvd hl hset hra hrb hbel
          go_wp2_with fail
          refine ⟨⟨i + 1, by omega, by go_num, HSET.out, ?_, ?_⟩, by simp [intOf]; omega⟩
          · exact (Below.heap_setCell wr _ _ _ (by intro h; have h' : w.heap.size + 1 = w.heap.size := h; omega)).trans HRB2.out
          · have h := HBEL2.out.setCell (p := ⟨w.heap.size, i, none⟩) (Nat.le_refl _) (.int .u64 (add64 l v))
            exact ⟨h.os, h.tape, h.output, h.size, h.block⟩
        · obtain rfl : i = 8 := by omega
          have h8' : ((8 : Nat) : Int) = 8 := rfl
          rw [h8']
          have e8 : mix s0.list s.list 8 = (comp512 s0 bs).list := by
            unfold comp512
            rw [← HST.out]
            rfl
          rw [e8] at hra
          have HRA3 := Lib.hid hra
          have HRB3 := Lib.hid hrb
          have HFIN := Lib.hid (setRow_irow (ys := (comp512 s0 bs).list) hrb)
          have HBF := Lib.hid (below_setRow hbel (Nat.le_succ _) ((comp512 s0 bs).list.map (Value.int .u64)).toArray)
          clear h8' e8 hra hrb hbel hi h8
          go_wp2_with (first
            | (refine wpList_load_irow rfl 90 (.tmp 2) rfl (g := w.heap.size) (t := 90) (k := .u64) (xs := (comp512 s0 bs).list) rfl HRA3.out Tryd.underlying90 info_8 ?_)
            | (refine wpList_store_irow rfl 90 (.tmp 4) (.tmp 124) rfl (g := w.heap.size + 1) (t := 90) (k := .u64) (xs := List.replicate 8 0) (ys := (comp512 s0 bs).list) rfl rfl HRB3.out info_8 rfl ?_))
          refine bodyPost_ret (v := .agg ((comp512 s0 bs).list.map (Value.int .u64)).toArray) ?_ rfl ⟨rfl, HBF.out⟩
          obtain ⟨fr, hrw⟩ : ∃ fr, ((wr.setRow (w.heap.size + 1) ((comp512 s0 bs).list.map (Value.int .u64)).toArray)).heap[w.heap.size + 1]? = some (.cells ((comp512 s0 bs).list.map (Value.int .u64)).toArray 90 fr) := ⟨_, HFIN.out⟩
          exact results_cell_row Tryd.results42 _ _ (w.heap.size + 1) 90 ((comp512 s0 bs).list.map (Value.int .u64)).toArray fr _ rfl hrw Tryd.underlying90 rfl info_8
end Go.Proofs.YtfkpdbmgiefnfaaDoor.S5

/-
  What an intake holds, on plain numbers. Conditions: none (plain mathematics).
-/
namespace Go.Proofs.YtfkpdbmgiefnfaaDoor.S5

theorem join_drop {m b : List UInt8} {q : Nat} (hq : 128 * q ≤ m.length) : (m ++ b).drop (128 * q) = m.drop (128 * q) ++ b := List.drop_append_of_le_length hq
/-- The block that a piece fills up. -/
theorem join_block {m b : List UInt8} {n : Nat} (hn : n + m.length % 128 = 128) :
    ((m ++ b).drop (128 * (m.length / 128))).take 128 = m.drop (128 * (m.length / 128)) ++ b.take n := by
  rw [join_drop (by omega), List.take_append]
  have hl : (m.drop (128 * (m.length / 128))).length = m.length % 128 := by rw [List.length_drop]; omega
  rw [List.take_of_length_le (by omega), hl]
  congr 2
  omega
theorem join_rest {m b : List UInt8} {n : Nat} (hn : n + m.length % 128 = 128) : (m ++ b).drop (128 * (m.length / 128 + 1)) = b.drop n := by
  have e : 128 * (m.length / 128 + 1) = m.length + n := by omega
  rw [e, ← List.drop_drop, List.drop_left]
theorem blocks512_next {m b : List UInt8} {n : Nat} (hn : n + m.length % 128 = 128) :
    blocks512 (m ++ b) (m.length / 128 + 1) = comp512 (blocks512 m (m.length / 128)) (m.drop (128 * (m.length / 128)) ++ b.take n) := by
  rw [blocks512, blocks512_more b _ (by omega), join_block hn]
theorem blocks512_same (m b : List UInt8) : blocks512 (m ++ b) (m.length / 128) = blocks512 m (m.length / 128) := blocks512_more b _ (by omega)
/-- A message that is closed has whole blocks. -/
theorem full_blocks (m : List UInt8) : (full m).length % 128 = 0 := by
  unfold full
  rw [List.length_append]
  exact padB_fits m.length
/-- What an intake holds behind the bytes m: the words behind the whole blocks, and the rest before any other bytes. -/
structure Took (m : List UInt8) (ws : List Int) (rest : List Int) : Prop where
  size : rest.length = 128
  words : m ≠ [] → ws = (blocks512 m (m.length / 128)).list
  low : rest.take (m.length % 128) = nums (m.drop (128 * (m.length / 128)))
theorem Took.zero : Took [] (List.replicate 8 0) (List.replicate 128 0) := ⟨by rw [List.length_replicate], fun h => absurd rfl h, rfl⟩
/-- Row r with the numbers ns from place k on. -/
def laid (r : List Int) (k : Nat) (ns : List Int) : List Int := r.take k ++ ns ++ r.drop (k + ns.length)
theorem laid_length {r ns : List Int} {k : Nat} (h : k + ns.length ≤ r.length) : (laid r k ns).length = r.length := by
  unfold laid
  simp only [List.length_append, List.length_take, List.length_drop]
  omega
theorem laid_take {r ns : List Int} {k : Nat} (h : k + ns.length ≤ r.length) : (laid r k ns).take (k + ns.length) = r.take k ++ ns := by
  unfold laid
  exact List.take_left' (by rw [List.length_append, List.length_take]; omega)
/-- A piece that fills no block. -/
theorem Took.some {m b : List UInt8} {ws rest : List Int} (h : Took m ws rest) (hm : m ≠ []) (hb : m.length % 128 + b.length < 128) :
    Took (m ++ b) ws (laid rest (m.length % 128) (nums b)) := by
  have hl : (m ++ b).length = m.length + b.length := List.length_append
  have e1 : (m ++ b).length / 128 = m.length / 128 := by omega
  have e2 : (m ++ b).length % 128 = m.length % 128 + (nums b).length := by rw [nums_length]; omega
  have hf : m.length % 128 + (nums b).length ≤ rest.length := by rw [nums_length, h.size]; omega
  refine ⟨by rw [laid_length hf, h.size], fun _ => ?_, ?_⟩
  · rw [e1, blocks512_same]
    exact h.words hm
  · rw [e2, laid_take hf, e1, join_drop (by omega), nums_append, h.low]
/-- Behind the whole blocks of all that came. -/
theorem Took.done {m : List UInt8} {rest : List Int} (hr : rest.length = 128) :
    Took m (blocks512 m (m.length / 128)).list (laid rest 0 (nums (m.drop (128 * (m.length / 128))))) := by
  have hl : (nums (m.drop (128 * (m.length / 128)))).length = m.length % 128 := by rw [nums_length, List.length_drop]; omega
  have hf : 0 + (nums (m.drop (128 * (m.length / 128)))).length ≤ rest.length := by rw [hr, hl]; omega
  refine ⟨by rw [laid_length hf, hr], fun _ => rfl, ?_⟩
  have h := laid_take hf
  rw [Nat.zero_add, hl] at h
  rw [h]
  rfl
end Go.Proofs.YtfkpdbmgiefnfaaDoor.S5

/-
  What an intake of SHA-512 is in memory: 8 words, 128 bytes, a size. Conditions: none.
-/
namespace Go.Proofs.YtfkpdbmgiefnfaaDoor.S5
open Go.RowKit

/-- The cells of an intake. -/
def inRow (ws rest : List Int) (n : Nat) : List Value := ws.map (Value.int .u64) ++ (rest.map (Value.int .u8) ++ [.int .u64 (n : Int)])
theorem inRow_length {ws rest : List Int} (n : Nat) (hw : ws.length = 8) (hr : rest.length = 128) : (inRow ws rest n).length = 137 := by simp [inRow, hw, hr]
theorem inRow_word {ws rest : List Int} (n : Nat) {j : Nat} {x : Int} (h : ws[j]? = some x) : (inRow ws rest n)[j]? = some (.int .u64 x) := by
  unfold inRow
  rw [List.getElem?_append_left (by rw [List.length_map]; exact (List.getElem?_eq_some_iff.1 h).1), List.getElem?_map, h]
  rfl
theorem inRow_rest {ws rest : List Int} (n : Nat) (hw : ws.length = 8) {j : Nat} {x : Int} (h : rest[j]? = some x) : (inRow ws rest n)[8 + j]? = some (.int .u8 x) := by
  unfold inRow
  have hj := (List.getElem?_eq_some_iff.1 h).1
  rw [List.getElem?_append_right (by rw [List.length_map]; omega), List.length_map, hw, show 8 + j - 8 = j by omega, List.getElem?_append_left (by rw [List.length_map]; exact hj), List.getElem?_map, h]
  rfl
theorem inRow_size {ws rest : List Int} (n : Nat) (hw : ws.length = 8) (hr : rest.length = 128) : (inRow ws rest n)[136]? = some (.int .u64 (n : Int)) := by
  unfold inRow
  rw [List.getElem?_append_right (by rw [List.length_map]; omega), List.length_map, hw, List.getElem?_append_right (by rw [List.length_map]; omega), List.length_map, hr]
  rfl
/-- Other words. -/
theorem inRow_words {ws us rest : List Int} (n : Nat) (hw : ws.length = 8) (hu : us.length = 8) :
    (inRow ws rest n).take 0 ++ us.map (Value.int .u64) ++ (inRow ws rest n).drop (0 + (us.map (Value.int .u64)).length) = inRow us rest n := by
  unfold inRow
  rw [List.length_map, hu, List.take_zero, List.nil_append, List.drop_left' (by rw [List.length_map]; omega)]
/-- Another size. -/
theorem inRow_sized {ws rest : List Int} (n m : Nat) (hw : ws.length = 8) (hr : rest.length = 128) : (inRow ws rest n).set 136 (.int .u64 (m : Int)) = inRow ws rest m := by
  unfold inRow
  rw [List.set_append_right _ _ (by rw [List.length_map]; omega), List.length_map, hw, List.set_append_right _ _ (by rw [List.length_map]; omega), List.length_map, hr]
  rfl
/-- Other bytes from place k on. -/
theorem inRow_laid {ws rest ns : List Int} (n : Nat) {k : Nat} (hw : ws.length = 8) (hf : k + ns.length ≤ rest.length) :
    (inRow ws rest n).take (8 + k) ++ ns.map (Value.int .u8) ++ (inRow ws rest n).drop (8 + k + (ns.map (Value.int .u8)).length) = inRow ws (laid rest k ns) n := by
  have e1 : (inRow ws rest n).take (8 + k) = ws.map (Value.int .u64) ++ (rest.map (Value.int .u8)).take k := by
    unfold inRow
    have hk : (ws.map (Value.int .u64)).length = 8 := by rw [List.length_map, hw]
    rw [← hk, List.take_append, List.take_of_length_le (by omega), Nat.add_sub_cancel_left, List.take_append_of_le_length (by rw [List.length_map]; omega)]
  have e2 : (inRow ws rest n).drop (8 + k + (ns.map (Value.int .u8)).length) = (rest.map (Value.int .u8)).drop (k + ns.length) ++ [.int .u64 (n : Int)] := by
    unfold inRow
    rw [List.length_map, Nat.add_assoc, ← List.drop_drop, List.drop_left' (by rw [List.length_map, hw]), List.drop_append_of_le_length (by rw [List.length_map]; omega)]
  rw [e1, e2]
  unfold inRow laid
  simp only [List.map_append, List.map_take, List.map_drop, List.append_assoc]
end Go.Proofs.YtfkpdbmgiefnfaaDoor.S5
