/-
  fees: maps.Equal at the waits. Conditions: names are of the two kinds that the laws use.
-/
import Derived.Test.YtfhpodeppmnopaaFeIt
namespace Go.Proofs.Ytfhpodeppmnopaa
open Go.RowKit Go.Maps Go.ChangeMaps

def SameW (W1 W2 : List Ent) : Prop := W1.length = W2.length ∧ ∀ e ∈ W1, e ∈ W2

section
variable {ops : Array Oper} {rest : List Oper} {o : Oper} {a : Act} {w w' : World} {Q : Exit → Act → World → Prop}
theorem wpList_next_it (hg : o.guard = none) (it : Operand) (hop : o.op = Op.next it false) {r : Nat} {v : Value} (hit : a.eval it = .pointer (some ⟨r, 0, none⟩)) (hrun : (Instr.next (.pointer (some ⟨r, 0, none⟩)) false o.type).run Try.prog w = .ok v w')
    (hn : wpList Try.prog ops Q rest (a.put o.dst v) w') : wpList Try.prog ops Q (o :: rest) a w := by
  refine wpList_plain hg fun K' hK' => ?_
  unfold Oper.wp
  simp [execOp, hop, hit, hrun, Result.andThen]
  exact hK' _ _ hn
theorem wpList_range_it (hg : o.guard = none) (t : TypeId) (m : Operand) (hop : o.op = Op.range t m) {u v : Value} (hm : a.eval m = u) (hrun : (Instr.range t u).run Try.prog w = .ok v w')
    (hn : wpList Try.prog ops Q rest (a.put o.dst v) w') : wpList Try.prog ops Q (o :: rest) a w := by
  refine wpList_plain hg fun K' hK' => ?_
  unfold Oper.wp
  simp [execOp, hop, hm, hrun, Result.andThen]
  exact hK' _ _ hn
end

theorem eq_wait (x y : Ent) (W : World) : (Op.equalIn 10000 62 (wtV x) (wtV y)).run Try.prog W = .ok (decide (x.bk = y.bk ∧ x.ht = y.ht)) W := by
  have hp : Try.prog.stoodInHeld 62 = false := by kernel_rfl
  have hs : Try.prog.underlying 62 = some (.struct (Try.prog.fieldsOf 62)) := by kernel_rfl
  have h := run_equalIn_struct (P := Try.prog) W 9999 62 #[.int .i64 (x.bk : Int), .int .i64 x.ht] #[.int .i64 (y.bk : Int), .int .i64 y.ht] hs hp
  unfold wtV
  refine h.trans ?_
  have h2 := hs
  rw [Try.underlying62] at h2
  injection h2 with h2
  injection h2 with h2
  rw [← h2]
  have b1 : ∀ W, (isAgg 3).run Try.prog W = .ok false W := fun W => by kernel_rfl
  have b2 : ∀ W, (isAgg 2).run Try.prog W = .ok false W := fun W => by kernel_rfl
  by_cases h1 : x.bk = y.bk <;> by_cases h3 : x.ht = y.ht <;> simp [Op.eqFields, part, h1, h3, go_sem, b1, b2] <;> omega

structure EqAt (w wr : World) (c b r : Nat) (m2 : Option Nat) (W1 W2 : List Ent) : Prop where
  it : ItAt wr c b r W1 W2
  m2 : MapAt wr c m2 W2
  bel : Below w.heap.size w wr
theorem EqAt.below {w wr w2 : World} {c b r : Nat} {m2 : Option Nat} {W1 W2 : List Ent} (h : EqAt w wr c b r m2 W1 W2) (hb : Below wr.heap.size wr w2) : EqAt w w2 c b r m2 W1 W2 :=
  ⟨h.it.turns (P := fun _ => False) (Turns.of_below hb) (fun q => q) (fun q => q), h.m2.turns (S := fun _ => False) (Turns.of_below hb) (fun _ _ q => q), h.bel.trans (hb.mono h.bel.size)⟩

theorem two_rows (w : World) (t1 t2 : TypeId) (Z1 Z2 K V : List Value) :
    VRow ((w.alloc (.cells Z1.toArray t1)).alloc (.cells Z2.toArray t2)) w.heap.size t1 Z1 ∧ VRow (((w.alloc (.cells Z1.toArray t1)).alloc (.cells Z2.toArray t2)).setRow w.heap.size K.toArray) (w.heap.size + 1) t2 Z2 ∧
    VRow ((((w.alloc (.cells Z1.toArray t1)).alloc (.cells Z2.toArray t2)).setRow w.heap.size K.toArray).setRow (w.heap.size + 1) V.toArray) w.heap.size t1 K ∧ VRow ((((w.alloc (.cells Z1.toArray t1)).alloc (.cells Z2.toArray t2)).setRow w.heap.size K.toArray).setRow (w.heap.size + 1) V.toArray) (w.heap.size + 1) t2 V ∧
    Below w.heap.size w ((((w.alloc (.cells Z1.toArray t1)).alloc (.cells Z2.toArray t2)).setRow w.heap.size K.toArray).setRow (w.heap.size + 1) V.toArray) := by
  have hs : (w.alloc (.cells Z1.toArray t1)).heap.size = w.heap.size + 1 := by simp
  have a1 := (VRow.new w t1 Z1).below ((Below.refl _ (w.alloc (.cells Z1.toArray t1))).alloc (Nat.le_refl _) (.cells Z2.toArray t2)) (by simp)
  have a2 := VRow.new (w.alloc (.cells Z1.toArray t1)) t2 Z2
  rw [hs] at a2
  have b1 := a1.setRow K
  have tA : ∀ (X : World) (g : Nat) (u : List Value), Turns (fun i => i = g) X (X.setRow g u.toArray) := fun X g u => Turns.setRow (S := fun i => i = g) (Turns.refl _ X) (fun _ => rfl) _
  have b2 := a2.turns (tA _ w.heap.size K) (by omega)
  have d1 := b1.turns (tA _ (w.heap.size + 1) V) (by omega)
  have d2 := b2.setRow V
  exact ⟨a1, b2, d1, d2, below_setRow (below_setRow (((Below.refl _ w).alloc (Nat.le_refl _) _).alloc (by omega) _) (Nat.le_refl _) _) (by omega) _⟩

theorem one_row (w : World) (t : TypeId) (Z V : List Value) : VRow ((w.alloc (.cells Z.toArray t)).setRow w.heap.size V.toArray) w.heap.size t V ∧ Below w.heap.size w ((w.alloc (.cells Z.toArray t)).setRow w.heap.size V.toArray) :=
  ⟨(VRow.new w t Z).setRow V, below_setRow ((Below.refl _ w).alloc (Nat.le_refl _) _) (Nat.le_refl _) _⟩

set_option maxRecDepth 100000 in
set_option maxHeartbeats 3200000 in
theorem mequal_any (c : Nat) (m1 m2 : Option Nat) (W1 W2 : List Ent) (w : World) (hc : COk c) (h1 : MapAt w c m1 W1) (h2 : MapAt w c m2 W2) (hw1 : Wids W1) (hw2 : Wids W2) (hn2 : W2.Pairwise (fun e e' => e.id ≠ e'.id)) :
    Calls Try.prog 19 #[.map m1, .map m2] w fun e w' => ∃ r : Bool, e = .returned (.bool r) ∧ (r = true ↔ SameW W1 W2) ∧ Below w.heap.size w w' := by
  have l1 := fun ty => h1.size ty
  have l2 := fun ty => h2.size ty
  by_cases hl : W1.length = W2.length
  · have q : ((W1.length : Int) == (W2.length : Int)) = true := by simp [hl]
    cases m1 with
    | none =>
      have hW : W1 = [] := h1
      have hs : SameW W1 W2 := ⟨hl, by rw [hW]; simp⟩
      have hrg := run_range_nilMap (P := Try.prog) w 57 _ _ map_type
      have hnx : ∀ ty, (Instr.next (.pointer (some ⟨w.heap.size, 0, none⟩)) false ty).run Try.prog (w.alloc (.mapIter none 0 #[] 0)) = _ := fun ty => run_next_nilMap _ ty 0 0 #[]
      have HS := Lib.hid hs
      have hbel : Below w.heap.size w (w.alloc (.mapIter none 0 #[] 0)) := (Below.refl _ w).alloc (Nat.le_refl _) _
      have HBEL := Lib.hid hbel
      clear h1 h2 hl hs hbel hW
      go_enter Try.func19, Try.ntmps19
      go_wp2
      refine wp_loop_rounds 1 ?_
      rw [rounds_succ]
      go_wp2
      go_ret
      exact ⟨true, rfl, ⟨fun _ => HS.out, fun _ => rfl⟩, HBEL.out⟩
    | some b =>
      have qn : ((W1.length : Int) != (W2.length : Int)) = false := by rw [bne, q]; rfl
      obtain ⟨w1, hrg, hit, hb1⟩ := h1.range W2
      have heq : EqAt w w1 c b w.heap.size m2 W1 W2 := ⟨hit, h2.turns (S := fun _ => False) (Turns.of_below hb1) (fun _ _ q => q), hb1⟩
      obtain ⟨Z4, hz4, hz4l⟩ : ∃ Z : List Value, (∀ W, (zeroValue 45).run Try.prog W = .ok (.agg Z.toArray) W) ∧ Z.length = 32 := ⟨List.replicate 32 (.int .u8 0), fun W => by kernel_rfl, rfl⟩
      obtain ⟨Z7, hz7, hz7l⟩ : ∃ Z : List Value, (∀ W, (zeroValue 62).run Try.prog W = .ok (.agg Z.toArray) W) ∧ Z.length = 2 := ⟨[.int .i64 0, .int .i64 0], fun W => by kernel_rfl, rfl⟩
      have HRG := Lib.hid hrg
      have HEQ := Lib.hid heq
      have HL := Lib.hid hl
      have HZ4 := Lib.hid hz4l
      have HZ7 := Lib.hid hz7l
      have HW1 := Lib.hid hw1
      have HW2 := Lib.hid hw2
      have HN2 := Lib.hid hn2
      obtain ⟨r, hr⟩ : ∃ r, r = w.heap.size := ⟨_, rfl⟩
      rw [← hr] at HRG HEQ
      have HRR := Lib.hid (show w.heap.size ≤ r by omega)
      have HMM := Lib.hid (show ∀ b', m2 = some b' → b' < w.heap.size from fun b' hb' => h2.lt hb')
      clear h1 h2 hrg hit hb1 heq hl hw1 hw2 hn2 hz4l hz7l hr
      go_enter Try.func19, Try.ntmps19
      go_wp2_with (first
        | (refine wpList_range_it rfl _ _ rfl rfl HRG.out ?_))
      go_frame
      clear l1 l2 q qn
      go_loopw [18] (fun _ wr => EqAt w wr c b r m2 W1 W2) (fun _ wr => wr.rangeLeft b r)
      case atStart => exact HEQ.out
      case round =>
        have HR := Lib.hid hrel
        rcases hrel.it.next 0 with ⟨hrun, hall⟩ | ⟨e, he, w4, hrun, hen, hlt, hV, htn⟩
        · as_aux_lemma =>
          have HA := Lib.hid hall
          clear hrel hall
          go_wp2_with (first
            | (refine wpList_next_it rfl _ rfl rfl hrun ?_))
          exact bodyPost_ret (results_tmp rfl _ _ _) rfl ⟨true, rfl, ⟨fun _ => ⟨HL.out, HA.out⟩, fun _ => rfl⟩, HR.out.bel⟩
        · have hbr := hrel.it.lt
          have hm4 : MapAt w4 c m2 W2 := hrel.m2.turns htn (fun b' hb' q => by have q' : b' = r := q; have := HMM.out b' hb'; have := HRR.out; omega)
          have hbel4 : Below w.heap.size w w4 := below_turns hrel.bel htn (fun i q => by have q' : i = r := q; have := HRR.out; omega)
          have he256 := HW1.out e he
          obtain ⟨KV, hKV⟩ : ∃ KV, KV = (nmI c e.id).map (Value.int .u8) := ⟨_, rfl⟩
          obtain ⟨VV, hVV⟩ : ∃ VV : List Value, VV = [.int .i64 (e.bk : Int), .int .i64 e.ht] := ⟨_, rfl⟩
          have hnk : nmV c e.id = .agg KV.toArray := by rw [hKV]; rfl
          have hnv : wtV e = .agg VV.toArray := by rw [hVV]; rfl
          have hk1 : KV.toArray.all (·.oneCell') = true := by rw [hKV]; kernel_rfl
          have hv1 : VV.toArray.all (·.oneCell') = true := by rw [hVV]; kernel_rfl
          have hkl : KV.length = 32 := by rw [hKV]; rfl
          have hvl : VV.length = 2 := by rw [hVV]; rfl
          have hks : (Try.prog.info? 45).map (·.size) = some KV.length := by rw [hkl]; kernel_rfl
          have hvs : (Try.prog.info? 62).map (·.size) = some VV.length := by rw [hvl]; kernel_rfl
          rw [hnk, hnv] at hrun hen
          have HK1 := Lib.hid hk1
          have HV1 := Lib.hid hv1
          have HKS := Lib.hid hks
          have HVS := Lib.hid hvs
          have HKL := Lib.hid hkl
          have HVL := Lib.hid hvl
          have HNK := Lib.hid hnk
          have HVV := Lib.hid hVV
          have HNV := Lib.hid hnv
          have HM4 := Lib.hid hm4
          have HB4 := Lib.hid hbel4
          have HVI := Lib.hid hV
          have HLT := Lib.hid hlt
          have HE := Lib.hid he
          clear hrel hm4 hbel4 hnk hnv hk1 hv1 hks hvs hkl hvl hKV hVV hV hlt he htn
          obtain ⟨r1, r2, r3, r4, r5⟩ := two_rows w4 45 62 Z4 Z7 KV VV
          have R1 := Lib.hid r1
          have R2 := Lib.hid r2
          clear r1 r2
          go_upto_region 6 with (first
            | (refine wpList_next_it rfl _ rfl rfl hrun ?_)
            | (refine wpList_store_vrow rfl 45 _ _ rfl rfl rfl R1.out HKS.out (HZ4.out.trans HKL.out.symm) HK1.out ?_)
            | (refine wpList_store_vrow rfl 62 _ _ rfl rfl rfl R2.out HVS.out (HZ7.out.trans HVL.out.symm) HV1.out ?_))
          change Code.wp _ _ _ _ ((((w4.alloc (.cells Z4.toArray 45)).alloc (.cells Z7.toArray 62)).setRow w4.heap.size KV.toArray).setRow (w4.heap.size + 1) VV.toArray)
          obtain ⟨w5, hw5⟩ : ∃ z, z = (((w4.alloc (.cells Z4.toArray 45)).alloc (.cells Z7.toArray 62)).setRow w4.heap.size KV.toArray).setRow (w4.heap.size + 1) VV.toArray := ⟨_, rfl⟩
          obtain ⟨G1, hG1⟩ : ∃ z, z = w4.heap.size := ⟨_, rfl⟩
          obtain ⟨G2, hG2⟩ : ∃ z, z = w4.heap.size + 1 := ⟨_, rfl⟩
          rw [← hw5] at r3 r4 r5 ⊢
          rw [← hG2, ← hG1]
          rw [← hG1] at r3
          rw [← hG2] at r4
          have R3 := Lib.hid r3
          have R4 := Lib.hid r4
          have R5 := Lib.hid r5
          have M5 := Lib.hid (HM4.out.turns (S := fun _ => False) (Turns.of_below r5) (fun _ _ q => q))
          clear r3 r4 r5 hw5 hG1 hG2 R1 R2 hrun hen
          cases hf : fIdx W2 e.id with
          | none =>
            as_aux_lemma =>
            have hlk := M5.out.look_none hc HW2.out HN2.out he256 hf
            obtain ⟨x, hx⟩ : ∃ x : Ent, x = ⟨0, 0, 0⟩ := ⟨_, rfl⟩
            rw [← hx] at hlk
            obtain ⟨ZV, hZV⟩ : ∃ ZV : List Value, ZV = [.int .i64 (x.bk : Int), .int .i64 x.ht] := ⟨_, rfl⟩
            have hnz : wtV x = .agg ZV.toArray := by rw [hZV]; rfl
            have hz1 : ZV.toArray.all (·.oneCell') = true := by rw [hZV]; kernel_rfl
            have hzl : ZV.length = 2 := by rw [hZV]; rfl
            have hzs : (Try.prog.info? 62).map (·.size) = some ZV.length := by rw [hzl]; kernel_rfl
            have HZ1 := Lib.hid hz1
            have HZL := Lib.hid hzl
            have HZS := Lib.hid hzs
            have HNZ := Lib.hid hnz
            have HZV := Lib.hid hZV
            rw [HNK.out, hnz] at hlk
            clear hz1 hzl hzs hnz hZV
            go_upto_region 7 with (first
              | (refine wpList_load_row rfl 45 _ rfl G1 rfl 45 KV.toArray (0, 0) _ R3.out Try.underlying45 rfl (by rw [List.size_toArray]; exact HKS.out) ?_)
              | (refine wpList_store_vrow rfl 62 _ _ rfl rfl rfl (VRow.new w5 62 Z7) HZS.out (HZ7.out.trans HZL.out.symm) HZ1.out ?_))
            change Code.wp _ _ _ _ ((w5.alloc (.cells Z7.toArray 62)).setRow w5.heap.size ZV.toArray)
            obtain ⟨r6, r7⟩ := one_row w5 62 Z7 ZV
            obtain ⟨w6, hw6⟩ : ∃ z, z = (w5.alloc (.cells Z7.toArray 62)).setRow w5.heap.size ZV.toArray := ⟨_, rfl⟩
            obtain ⟨G3, hG3⟩ : ∃ z, z = w5.heap.size := ⟨_, rfl⟩
            rw [← hw6] at r6 r7 ⊢
            rw [← hG3] at r6 ⊢
            have B6 := Lib.hid (HB4.out.trans ((R5.out.trans (r7.mono R5.out.size)).mono HB4.out.size))
            have R45 := Lib.hid (R5.out.trans (r7.mono R5.out.size))
            have hR4 := Lib.hid (R4.out.below r7 R4.out.lt)
            have R6 := Lib.hid r6
            clear r6 r7 hw6 hG3 hlk
            have HF := Lib.hid hf
            clear hf
            go_wp2_with fail
            exact bodyPost_ret (results_tmp rfl _ _ _) rfl ⟨false, rfl, ⟨(fun q => by cases q), fun q => absurd rfl (fIdx_none HF.out e (q.2 e HE.out))⟩, B6.out⟩
          | some i =>
            as_aux_lemma =>
            obtain ⟨x, hx, hxi, hil, hxf⟩ := fIdx_some hf
            have hlk := M5.out.look_some hc HW2.out HN2.out he256 hf hx
            have HXI := Lib.hid hxi
            have HX := Lib.hid hx
            clear hxi hx hil hxf hf
            obtain ⟨ZV, hZV⟩ : ∃ ZV : List Value, ZV = [.int .i64 (x.bk : Int), .int .i64 x.ht] := ⟨_, rfl⟩
            have hnz : wtV x = .agg ZV.toArray := by rw [hZV]; rfl
            have hz1 : ZV.toArray.all (·.oneCell') = true := by rw [hZV]; kernel_rfl
            have hzl : ZV.length = 2 := by rw [hZV]; rfl
            have hzs : (Try.prog.info? 62).map (·.size) = some ZV.length := by rw [hzl]; kernel_rfl
            have HZ1 := Lib.hid hz1
            have HZL := Lib.hid hzl
            have HZS := Lib.hid hzs
            have HNZ := Lib.hid hnz
            have HZV := Lib.hid hZV
            rw [HNK.out, hnz] at hlk
            clear hz1 hzl hzs hnz hZV
            go_upto_region 7 with (first
              | (refine wpList_load_row rfl 45 _ rfl G1 rfl 45 KV.toArray (0, 0) _ R3.out Try.underlying45 rfl (by rw [List.size_toArray]; exact HKS.out) ?_)
              | (refine wpList_store_vrow rfl 62 _ _ rfl rfl rfl (VRow.new w5 62 Z7) HZS.out (HZ7.out.trans HZL.out.symm) HZ1.out ?_))
            change Code.wp _ _ _ _ ((w5.alloc (.cells Z7.toArray 62)).setRow w5.heap.size ZV.toArray)
            obtain ⟨r6, r7⟩ := one_row w5 62 Z7 ZV
            obtain ⟨w6, hw6⟩ : ∃ z, z = (w5.alloc (.cells Z7.toArray 62)).setRow w5.heap.size ZV.toArray := ⟨_, rfl⟩
            obtain ⟨G3, hG3⟩ : ∃ z, z = w5.heap.size := ⟨_, rfl⟩
            rw [← hw6] at r6 r7 ⊢
            rw [← hG3] at r6 ⊢
            have B6 := Lib.hid (HB4.out.trans ((R5.out.trans (r7.mono R5.out.size)).mono HB4.out.size))
            have R45 := Lib.hid (R5.out.trans (r7.mono R5.out.size))
            have hR4 := Lib.hid (R4.out.below r7 R4.out.lt)
            have R6 := Lib.hid r6
            clear r6 r7 hw6 hG3 hlk
            have c0 : w6.cell? ⟨G2, 0, none⟩ = some (.int .i64 (e.bk : Int)) := hR4.out.cell (by rw [HVV.out]; rfl)
            have c1 : w6.cell? ⟨G2, 1, none⟩ = some (.int .i64 e.ht) := hR4.out.cell (by rw [HVV.out]; rfl)
            have c2 : w6.cell? ⟨G3, 0, none⟩ = some (.int .i64 (x.bk : Int)) := R6.out.cell (by rw [HZV.out]; rfl)
            have c3 : w6.cell? ⟨G3, 1, none⟩ = some (.int .i64 x.ht) := R6.out.cell (by rw [HZV.out]; rfl)
            have heq := fun W => eq_wait e x W
            unfold wtV at heq
            by_cases hd : e.bk = x.bk ∧ e.ht = x.ht
            · rw [decide_eq_true hd] at heq
              have hex : e = x := by
                have i := HXI.out
                cases e
                cases x
                simp only at i hd
                rw [hd.1, hd.2, i]
              have HEX := Lib.hid hex
              clear hd hex
              go_wp2_with fail
              have hev : e ∈ W2 := by rw [HEX.out]; exact List.mem_of_getElem? HX.out
              have h0 := HVI.out hev
              have hbb := h0.lt
              have h6 : EqAt w w6 c b r m2 W1 W2 := (⟨h0, HM4.out, HB4.out⟩ : EqAt w w4 c b r m2 W1 W2).below R45.out
              have hms : w6.rangeLeft b r < wr.rangeLeft b r := by
                rw [ItAt.same (w := w4) (R45.out.block b hbb.1) (R45.out.block r hbb.2.1)]
                exact HLT.out
              go_roundw
              case rel => exact h6
              case measure => exact hms
            · rw [decide_eq_false hd] at heq
              have hev : ¬ e ∈ W2 := fun q => by
                obtain ⟨j, hj⟩ := List.mem_iff_getElem?.1 q
                have hij : j = i := by
                  have hnd := List.pairwise_iff_getElem.1 HN2.out
                  have a1 := List.getElem?_eq_some_iff.1 hj
                  have a2 := List.getElem?_eq_some_iff.1 HX.out
                  rcases Nat.lt_trichotomy j i with hl | hl | hl
                  · exact absurd HXI.out.symm (by have := hnd j i a1.1 a2.1 hl; rwa [a1.2, a2.2] at this)
                  · exact hl
                  · exact absurd HXI.out (by have := hnd i j a2.1 a1.1 hl; rwa [a1.2, a2.2] at this)
                rw [hij, HX.out] at hj
                cases hj
                exact hd ⟨rfl, rfl⟩
              have HEV := Lib.hid hev
              clear hd hev
              go_wp2_with fail
              exact bodyPost_ret (results_tmp rfl _ _ _) rfl ⟨false, rfl, ⟨(fun q => by cases q), fun q => absurd (q.2 e HE.out) HEV.out⟩, B6.out⟩
  · have q : ((W1.length : Int) == (W2.length : Int)) = false := by simp; omega
    have hs : ¬ SameW W1 W2 := fun p => hl p.1
    have HS := Lib.hid hs
    clear h1 h2 hs hl
    go_enter Try.func19, Try.ntmps19
    go_wp2_with fail
    exact bodyPost_ret (results_tmp rfl _ _ _) rfl ⟨false, rfl, ⟨(fun q => by cases q), fun q => absurd q HS.out⟩, Below.refl _ _⟩
end Go.Proofs.Ytfhpodeppmnopaa
