/-
  The reference's Block. Conditions: names are of the two kinds that the laws use; a thousand entries at most.
-/
import Derived.Test.YtfhpodeppmnopaaFeRfor
namespace Go.Proofs.Ytfhpodeppmnopaa
open Go.RowKit

/-- The box and the result's place. -/
structure BlkAt (w wr : World) (G GZ : Nat) (us zs : List Value) : Prop where
  row : VRow wr G 30 us
  res : VRow wr GZ 30 zs
  bel : Below w.heap.size w wr
  ne : G ≠ GZ
  geG : w.heap.size ≤ G
  geZ : w.heap.size ≤ GZ
theorem BlkAt.drew {w wr : World} {G GZ : Nat} {us zs : List Value} (h : BlkAt w wr G GZ us zs) : BlkAt w wr.drew G GZ us zs := ⟨h.row, h.res, h.bel.drew, h.ne, h.geG, h.geZ⟩
theorem BlkAt.below {w wr wr' : World} {G GZ : Nat} {us zs : List Value} (h : BlkAt w wr G GZ us zs) (hb : Below wr.heap.size wr wr') : BlkAt w wr' G GZ us zs :=
  ⟨h.row.below hb h.row.lt, h.res.below hb h.res.lt, h.bel.trans (hb.mono h.bel.size), h.ne, h.geG, h.geZ⟩
theorem BlkAt.set {w wr : World} {G GZ : Nat} {us zs : List Value} (h : BlkAt w wr G GZ us zs) (i : Nat) (v : Value) : BlkAt w (wr.setCell ⟨G, i, none⟩ v) G GZ (us.set i v) zs :=
  ⟨h.row.set _ _, (Below.heap_setCell _ _ _ _ (fun q => h.ne q.symm)).trans h.res, h.bel.setCell h.geG _, h.ne, h.geG, h.geZ⟩
theorem BlkAt.setRow {w wr : World} {G GZ : Nat} {us zs : List Value} (h : BlkAt w wr G GZ us zs) (vs : List Value) : BlkAt w (wr.setRow G vs.toArray) G GZ vs zs :=
  ⟨h.row.setRow vs, (Turns.block (S := fun i => i = G) (Turns.setRow (S := fun i => i = G) (Turns.refl _ wr) (fun _ => rfl) vs.toArray) GZ h.res.lt (fun q => h.ne q.symm)).trans h.res, below_setRow h.bel h.geG _, h.ne, h.geG, h.geZ⟩
theorem blkAt_start (w : World) (us zs : List Value) :
    BlkAt w ((w.alloc (.cells us.toArray 30)).alloc (.cells zs.toArray 30)) w.heap.size (w.heap.size + 1) us zs := by
  have r1 := VRow.new w 30 us
  have r3 := VRow.new (w.alloc (.cells us.toArray 30)) 30 zs
  rw [World.size_alloc] at r3
  exact ⟨vrow_alloc r1 _, r3, ((Below.refl _ w).alloc (Nat.le_refl _) _).alloc (by simp) _, by omega, Nat.le_refl _, by omega⟩
/-- The reference's book lies in the box. -/
theorem BlkAt.turned {wr wr' : World} {c G : Nat} {us vs : List Value} {S : Bs} (hv : RefV wr c us S) (hrow : VRow wr G 30 vs) (ht : Turns (fun i => i = G) wr wr') : RefV wr' c us S :=
  hv.turns ht (fun sl hsl k hk q => by
    obtain ⟨_, sl', hsl', hwt⟩ := hv
    rw [hsl] at hsl'
    injection hsl' with hsl'
    subst hsl'
    subst q
    exact hwt.not_row hrow (by decide) hk)
theorem BlkAt.setA {w wr : World} {c G GZ k : Nat} {us zs : List Value} {S : Bs} (h : BlkAt w wr G GZ us zs) (hv : RefV wr c us S) (hk : k < 24) (x : Int) : RefV (wr.setCell ⟨G, k, none⟩ (.int .i64 x)) c (us.set k (.int .i64 x)) ⟨fun j => if j = k then x else S.A j, S.I, S.W⟩ := by
  obtain ⟨h1, sl, h2, h3⟩ := BlkAt.turned hv h.row (Turns.setCell (S := fun i => i = G) (Turns.refl _ wr) (p := ⟨G, k, none⟩) (fun _ => rfl) (.int .i64 x))
  exact ⟨h1.setA hk x, sl, by rw [List.getElem?_set, if_neg (by omega)]; exact h2, h3⟩
theorem BlkAt.setI {w wr : World} {c G GZ k s : Nat} {us zs : List Value} {S : Bs} (h : BlkAt w wr G GZ us zs) (hv : RefV wr c us S) (hk : k < 24) (hs : s < 12) (x : Int) : RefV (wr.setCell ⟨G, 24 + k * 12 + s, none⟩ (.int .i64 x)) c (us.set (24 + k * 12 + s) (.int .i64 x)) ⟨S.A, fun j t => if j = k ∧ t = s then x else S.I j t, S.W⟩ := by
  obtain ⟨h1, sl, h2, h3⟩ := BlkAt.turned hv h.row (Turns.setCell (S := fun i => i = G) (Turns.refl _ wr) (p := ⟨G, 24 + k * 12 + s, none⟩) (fun _ => rfl) (.int .i64 x))
  exact ⟨h1.setI hk hs x, sl, by rw [List.getElem?_set, if_neg (by omega)]; exact h2, h3⟩
theorem RefV.congr {w : World} {c : Nat} {us : List Value} {S S' : Bs} (h : RefV w c us S) (hA : ∀ k, k < 24 → S.A k = S'.A k) (hI : ∀ k t, k < 24 → t < 12 → S.I k t = S'.I k t) (hW : S.W = S'.W) : RefV w c us S' := by
  obtain ⟨h1, sl, h2, h3⟩ := h
  exact ⟨h1.congr hA hI, sl, h2, by rw [← hW]; exact h3⟩
/-- The end: the box is loaded, and stored as the result. -/
theorem blkAt_end {w wr : World} {c G GZ : Nat} {us zs : List Value} {S : Bs} (h : BlkAt w wr G GZ us zs) (hv : RefV wr c us S) :
    RefV (wr.setRow GZ us.toArray) c us S ∧ Below w.heap.size w (wr.setRow GZ us.toArray) ∧ VRow (wr.setRow GZ us.toArray) GZ 30 us :=
  ⟨BlkAt.turned hv h.res (Turns.setRow (S := fun i => i = GZ) (Turns.refl _ wr) (fun _ => rfl) _), below_setRow h.bel h.geZ _, h.res.setRow us⟩
theorem wrap_inc {i : Nat} (hi : i < 1000000) : wrap64 ((i : Int) + 1) = (i : Int) + 1 := by unfold wrap64; omega
theorem wrap_small2 {x : Int} (h0 : -9223372036854775808 ≤ x) (h1 : x ≤ 9223372036854775807) : wrap64 x = x := by unfold wrap64; omega
theorem meas_up {n i : Nat} (hi : i < n) : n - (intOf (.int .i64 (((i + 1 : Nat) : Int)))).toNat < n - (intOf (.int .i64 (i : Int))).toNat := by
  simp [intOf]
  omega
/-- The box's state behind some rounds of a loop that counts up to n. -/
def BxAt (w wr : World) (c G GZ n : Nat) (zs : List Value) (T : Nat → Bs) (s : Value) : Prop := ∃ (k : Nat) (us : List Value), k ≤ n ∧ s = .int .i64 (k : Int) ∧ BlkAt w wr G GZ us zs ∧ RefV wr c us (T k)
/-- The state behind k buckets, and behind t of the next. -/
def shrT (S : Bs) (k : Nat) : Bs := ⟨shrA S k, shrI S k, S.W⟩
def shrU (S : Bs) (k t : Nat) : Bs := ⟨shrA S (k + 1), fun j s => if j = k ∧ s < t then S.I j s * 998 / 1000 else shrI S k j s, S.W⟩

theorem zero_wt (W : World) : (zeroValue 41).run Try.prog W = .ok (.agg ((List.replicate 32 (0 : Int)).map (Value.int .u8) ++ [Value.int .i64 0, Value.int .i64 0]).toArray) W := by kernel_rfl
theorem size_wt : (Try.prog.info? 41).map (·.size) = some 34 := by kernel_rfl
theorem wp_store_vrow {op : Oper} {a : Act} {w : World} {K : Act → World → Prop} {Q : Exit → Act → World → Prop} (ty : TypeId) (x y : Operand) (ho : op.op = .store ty x y)
    {g : Nat} {t : TypeId} {vs us : List Value} (hx : a.eval x = .pointer (some ⟨g, 0, none⟩)) (hy : a.eval y = .agg us.toArray) (h : VRow w g t vs) (hi : (Try.prog.info? ty).map (·.size) = some us.length) (hl : vs.length = us.length) (h1 : us.toArray.all (·.oneCell') = true)
    (hn : K (a.put op.dst undef) (w.setRow g us.toArray)) : op.wp Try.prog a w K Q := by
  unfold Oper.wp execOp
  have hst : (Instr.storeAt ty (.pointer (some ⟨g, 0, none⟩)) (.agg us.toArray)).run Try.prog w = .ok () (w.setRow g us.toArray) := by
    simp only [Instr.storeAt, Instr.sureAddr, Sem.run_bind, Sem.run_pure, Result.andThen_ok]
    exact run_storeVar_row w g t ty _ _ h (by rw [hi]; simp) (by simp [hl]) h1
  simp only [ho, hx, hy, hst, Sem.run_bind, Sem.run_pure, Result.andThen_ok]
  exact hn
theorem NmS.below {w w' : World} {c : Nat} {A : Option Addr} {n cap : Nat} {ids : List Nat} (h : NmS w c (.slice A n cap) ids (fun q => w.heap.size ≤ q)) (hb : Below w.heap.size w w') {i id : Nat} (hi : ids[i]? = some id) :
    ∃ b o, A = some ⟨b, o, none⟩ ∧ b < w.heap.size ∧ w'.rangeAt b (o + i * 32) ((nmI c id).map (Value.int .u8)) := by
  obtain ⟨b, o, e, hr⟩ := h.at (Turns.of_below hb) hi
  refine ⟨b, o, e, ?_, hr⟩
  obtain ⟨A', cap', e', _, _, h2⟩ := h
  injection e' with e1 e2 e3
  subst e1
  obtain ⟨b', o', hA, hbl, _⟩ := h2 (by rintro rfl; simp at hi)
  rw [e] at hA
  injection hA with hA
  injection hA with hA
  omega
/-- The counts behind t rounds of the last loop. -/
def cntU (T : Bs) (k : Nat) (U : Int) (W : List Ent) (t : Nat) : Bs := ⟨fun j => if j = k then T.A j + 1000 else T.A j, fun j s => if j = k ∧ U ≤ s + 1 ∧ s < t then T.I j s + 1000 else T.I j s, W⟩
def CtAt (w wr : World) (c G GZ GT : Nat) (zs wc : List Value) (T : Nat → Bs) (s : Value) : Prop := ∃ (t : Nat) (us : List Value), t ≤ 12 ∧ s = .int .i64 ((t + 1 : Nat) : Int) ∧ BlkAt w wr G GZ us zs ∧ RefV wr c us (T t) ∧ VRow wr GT 41 wc
theorem wrap_inc1 {i : Nat} (hi : i < 1000000) : wrap64 (((i + 1 : Nat) : Int) + 1) = ((i + 1 + 1 : Nat) : Int) := by unfold wrap64; omega
theorem meas_13 {i : Nat} (hi : i < 12) : 13 - (intOf (.int .i64 ((i + 1 + 1 : Nat) : Int))).toNat < 13 - (intOf (.int .i64 ((i + 1 : Nat) : Int))).toNat := by
  simp [intOf]
  omega
theorem meas_13b {i : Nat} (hi : i < 12) : 13 - (intOf (.int .i64 (((i + 1 : Nat) : Int) + 1))).toNat < 13 - (intOf (.int .i64 ((i + 1 : Nat) : Int))).toNat := by
  simp [intOf]
  omega
theorem meas_13c {i : Nat} (hi : i < 12) : 13 - (intOf (.int .i64 ((i : Int) + 1 + 1))).toNat < 13 - (intOf (.int .i64 ((i : Int) + 1))).toNat := by
  simp [intOf]
  omega
theorem cntU_next {T : Bs} {k : Nat} {U : Int} {W : List Ent} {t : Nat} (hU : U ≤ (t : Int) + 1) : ∀ j s, (if j = k ∧ s = t then (cntU T k U W t).I k t + 1000 else (cntU T k U W t).I j s) = (cntU T k U W (t + 1)).I j s := fun j s => by
  show (if j = k ∧ s = t then (if k = k ∧ U ≤ (t : Int) + 1 ∧ t < t then T.I k t + 1000 else T.I k t) + 1000 else if j = k ∧ U ≤ (s : Int) + 1 ∧ s < t then T.I j s + 1000 else T.I j s) = if j = k ∧ U ≤ (s : Int) + 1 ∧ s < t + 1 then T.I j s + 1000 else T.I j s
  rw [if_neg (show ¬ (k = k ∧ U ≤ (t : Int) + 1 ∧ t < t) by omega)]
  by_cases e : j = k
  · subst e
    by_cases e2 : s = t
    · subst e2
      rw [if_pos ⟨rfl, rfl⟩, if_pos ⟨rfl, hU, by omega⟩]
    · rw [if_neg (fun q => e2 q.2)]
      by_cases e3 : U ≤ (s : Int) + 1 ∧ s < t
      · rw [if_pos ⟨rfl, e3⟩, if_pos ⟨rfl, e3.1, by omega⟩]
      · rw [if_neg (fun q => e3 q.2), if_neg (fun q => e3 ⟨q.2.1, by have := q.2.2; omega⟩)]
  · rw [if_neg (fun q => e q.1), if_neg (fun q => e q.1), if_neg (fun q => e q.1)]
theorem cntU_skip {T : Bs} {k : Nat} {U : Int} {W : List Ent} {t : Nat} (hU : ¬ U ≤ (t : Int) + 1) : ∀ j s, (cntU T k U W t).I j s = (cntU T k U W (t + 1)).I j s := fun j s => by
  show (if j = k ∧ U ≤ (s : Int) + 1 ∧ s < t then T.I j s + 1000 else T.I j s) = if j = k ∧ U ≤ (s : Int) + 1 ∧ s < t + 1 then T.I j s + 1000 else T.I j s
  by_cases e : j = k ∧ U ≤ (s : Int) + 1 ∧ s < t
  · rw [if_pos e, if_pos ⟨e.1, e.2.1, by have := e.2.2; omega⟩]
  · rw [if_neg e, if_neg (fun q => by
      by_cases e2 : s = t
      · subst e2; exact hU q.2.1
      · exact e ⟨q.1, q.2.1, by have := q.2.2; omega⟩)]
theorem VRow.drew_cell {w : World} {g : Nat} {t : TypeId} {vs : List Value} (h : VRow w g t vs) {i : Nat} {z : Value} (hi : vs[i]? = some z) : w.drew.cell? ⟨g, i, none⟩ = some z := h.cell hi
theorem vrow_range0 {w : World} {g : Nat} {t : TypeId} {vs : List Value} (h : VRow w g t vs) : w.rangeAt g 0 vs := fun j v hv => by rw [Nat.zero_add]; exact h.cell hv

set_option maxRecDepth 100000 in
set_option maxHeartbeats 6400000 in
theorem rblock_any (c n : Nat) (us : List Value) (S : Bs) (ht : Int) (v : Value) (ids : List Nat) (w : World) (hc : c < 256) (hids : ∀ id ∈ ids, id < 256) (h : RefV w c us S) (hS : Ok n S) (hn : n ≤ 1000)
    (hv : NmS w c v ids (fun q => w.heap.size ≤ q)) (g0 : -9223372036854775808 ≤ ht) (g1 : ht ≤ 9223372036854775807) :
    Calls Try.prog 22 #[.agg us.toArray, .int .i64 ht, v] w (RefOut w c (blockF S ht ids)) := by
  have hzr := zero_ref
  have hzl := zRef_len
  have hsz := h.size
  obtain ⟨Av, cap, hvA, hvl, hvc, _⟩ := id hv
  subst hvA
  have hat := blkAt_start w us zRef
  obtain ⟨ZS, hZS⟩ : ∃ ZS, ZS = zRef := ⟨_, rfl⟩
  rw [← hZS] at hat hzl
  rw [← hZS] at hzr
  obtain ⟨w1, hw1⟩ : ∃ z, z = ((w.alloc (.cells us.toArray 30)).alloc (.cells ZS.toArray 30)) := ⟨_, rfl⟩
  obtain ⟨G, hG⟩ : ∃ z, z = w.heap.size := ⟨_, rfl⟩
  obtain ⟨GZ, hGZ⟩ : ∃ z, z = w.heap.size + 1 := ⟨_, rfl⟩
  rw [← hw1, ← hGZ] at hat
  have hat' : BlkAt w w1 G GZ us ZS := by rw [hG]; exact hat
  have hv1 : RefV w1 c us S := h.below hat'.bel
  have HAT := Lib.hid hat'
  have HV1 := Lib.hid hv1
  have HZL := Lib.hid hzl
  have HW1 := Lib.hid hw1
  have HG := Lib.hid hG
  have HGZ := Lib.hid hGZ
  have HS := Lib.hid hS
  have HNM := Lib.hid hv
  have HID := Lib.hid hids
  have HVL := Lib.hid hvl
  have hnI : (n : Int) ≤ 1000 := by omega
  clear hat hat' hv1 hsz hzl hw1 hG hGZ h hZS hS hv hids hvl
  go_enter Try.func22, Try.ntmps22
  go_upto_region 1 with fail
  change Code.wp _ _ _ _ ((w.alloc (.cells us.toArray 30)).alloc (.cells ZS.toArray 30))
  rw [← HW1.out, show w.heap.size + 1 = GZ from HGZ.out.symm, show w.heap.size = G from HG.out.symm]
  clear HW1 HG HGZ
  try dsimp only [Act.put]
  go_wp2_with fail
  go_loopw [7] (fun s wr => BxAt w wr c G GZ 24 ZS (shrT S) s) (fun s _ => 24 - (intOf s).toNat)
  case atStart => exact ⟨0, us, Nat.zero_le _, rfl, HAT.out, HV1.out.congr (fun j _ => by simp [shrT, shrA]) (fun j t _ _ => by simp [shrT, shrI]) rfl⟩
  case round =>
    obtain ⟨k, us1, hk, rfl, hba, hrv⟩ := hrel
    by_cases hlt : k < 24
    · as_aux_lemma =>
      have dk : decide ((k : Int) < 24) = true := decide_eq_true (by omega)
      have cell := hba.row.cell (hrv.1.all k hlt)
      have eA : (shrT S k).A k = S.A k := by unfold shrT shrA; exact if_neg (by omega)
      rw [eA] at cell
      have b1 := HS.out.a0 k hlt
      have b2 := HS.out.a2 hlt
      have fr := hba.row.free k
      obtain ⟨x, hx⟩ : ∃ x, x = S.A k := ⟨_, rfl⟩
      rw [← hx] at cell b1 b2
      obtain ⟨m1, m2, m3⟩ := mul998 b1 (by omega)
      obtain ⟨y, hy⟩ : ∃ y, y = x * 998 / 1000 := ⟨_, rfl⟩
      rw [← hy] at m2 m3
      have hb2 := hba.set k (.int .i64 y)
      have hr2 := (hba.setA hrv hlt y).congr (S' := shrU S k 0) (fun j hj => by
        show (if j = k then y else shrA S k j) = shrA S (k + 1) j
        rw [← shrA_next S k j]
        by_cases e : j = k
        · subst e
          rw [if_pos rfl, if_pos rfl, hy, hx]
          show S.A j * 998 / 1000 = shrA S j j * 998 / 1000
          unfold shrA
          rw [if_neg (by omega)]
        · rw [if_neg e, if_neg e]) (fun j t _ _ => by
        show shrI S k j t = if j = k ∧ t < 0 then S.I j t * 998 / 1000 else shrI S k j t
        rw [if_neg (by omega)]) rfl
      obtain ⟨us2, hus2⟩ : ∃ z, z = us1.set k (.int .i64 y) := ⟨_, rfl⟩
      obtain ⟨w2, hw2⟩ : ∃ z, z = wr.setCell ⟨G, k, none⟩ (.int .i64 y) := ⟨_, rfl⟩
      rw [← hus2, ← hw2] at hb2 hr2
      have HB2 := Lib.hid hb2
      have HR2 := Lib.hid hr2
      have HW2 := Lib.hid hw2
      clear hba hrv eA hb2 hr2 hw2 hus2 hx hy b1 b2
      go_upto_region 5 with fail
      change Code.wp _ _ _ _ (wr.setCell ⟨G, k, none⟩ (.int .i64 y))
      rw [← HW2.out]
      clear HW2 cell fr m1 m2 m3
      go_wp2_with fail
      go_loopw [8] (fun s wq => BxAt w wq c G GZ 12 ZS (shrU S k) s) (fun s _ => 12 - (intOf s).toNat)
      case atStart => exact ⟨0, us2, Nat.zero_le _, rfl, HB2.out, HR2.out⟩
      case round =>
        obtain ⟨t, us3, ht12, rfl, hba, hrv⟩ := hrel
        by_cases hlt2 : t < 12
        · have dt : decide ((t : Int) < 12) = true := decide_eq_true (by omega)
          have cell := hba.row.cell (hrv.1.wi k t hlt hlt2)
          have eI : (shrU S k t).I k t = S.I k t := by
            show (if k = k ∧ t < t then S.I k t * 998 / 1000 else shrI S k k t) = S.I k t
            rw [if_neg (by omega)]
            unfold shrI
            exact if_neg (by omega)
          rw [eI] at cell
          have b1 := HS.out.i0 k t hlt hlt2
          have b2 := HS.out.i2 hlt hlt2
          have fr := hba.row.free (24 + k * 12 + t)
          obtain ⟨x, hx⟩ : ∃ x, x = S.I k t := ⟨_, rfl⟩
          rw [← hx] at cell b1 b2
          obtain ⟨m1, m2, m3⟩ := mul998 b1 (by omega)
          obtain ⟨y, hy⟩ : ∃ y, y = x * 998 / 1000 := ⟨_, rfl⟩
          rw [← hy] at m2 m3
          have hb2 := (hba.set (24 + k * 12 + t) (.int .i64 y)).drew
          have hr2 := ((hba.setI hrv hlt hlt2 y).congr (S' := shrU S k (t + 1)) (fun j hj => rfl) (fun j s _ _ => by
            show (if j = k ∧ s = t then y else if j = k ∧ s < t then S.I j s * 998 / 1000 else shrI S k j s) = if j = k ∧ s < t + 1 then S.I j s * 998 / 1000 else shrI S k j s
            by_cases e : j = k
            · subst e
              by_cases e2 : s = t
              · subst e2
                rw [if_pos ⟨rfl, rfl⟩, if_pos ⟨rfl, by omega⟩, hy, hx]
              · rw [if_neg (fun q => e2 q.2)]
                by_cases e3 : s < t
                · rw [if_pos ⟨rfl, e3⟩, if_pos ⟨rfl, by omega⟩]
                · rw [if_neg (fun q => e3 q.2), if_neg (fun q => by have := q.2; omega)]
            · rw [if_neg (fun q => e q.1), if_neg (fun q => e q.1), if_neg (fun q => e q.1)]) rfl).drew
          have HB3 := Lib.hid hb2
          have HR3 := Lib.hid hr2
          clear hba hrv eI hb2 hr2 hx hy b1 b2
          go_wp2_with fail
          go_region
          all_goals go_wp2_with fail
          all_goals exact ⟨⟨t + 1, _, hlt2, by first | rfl | (rw [wrap_inc (by omega)]; rfl), HB3.out, HR3.out⟩, by first | exact meas_add hlt2 | exact meas_up hlt2 | exact meas_next hlt2 (wrap_small2 (by omega) (by have := HVL.out; omega))⟩
        · have dt : decide ((t : Int) < 12) = false := decide_eq_false (by omega)
          have ht12' : t = 12 := by omega
          have hr2 := hrv.congr (S' := shrT S (k + 1)) (fun j hj => rfl) (fun j s _ hs => by
            show (if j = k ∧ s < t then S.I j s * 998 / 1000 else shrI S k j s) = shrI S (k + 1) j s
            rw [← shrI_next S k j s]
            by_cases e : j = k
            · subst e
              rw [if_pos ⟨rfl, by omega⟩, if_pos rfl]
              unfold shrI
              rw [if_neg (by omega)]
            · rw [if_neg (fun q => e q.1), if_neg e]) rfl
          have HB3 := Lib.hid hba
          have HR3 := Lib.hid hr2
          clear hba hrv hr2 ht12'
          go_wp2_with fail
          exact ⟨⟨k + 1, _, hlt, by first | rfl | (rw [wrap_inc (by omega)]; rfl), HB3.out, HR3.out⟩, by first | exact meas_add hlt | exact meas_up hlt⟩
    · as_aux_lemma =>
      have dk : decide ((k : Int) < 24) = false := decide_eq_false (by omega)
      have hr0 := hrv.congr (S' := shrF S) (fun j hj => by show shrA S k j = S.A j * 998 / 1000; unfold shrA; exact if_pos (by omega)) (fun j t hj _ => by show shrI S k j t = S.I j t * 998 / 1000; unfold shrI; exact if_pos (by omega)) rfl
      have HB0 := Lib.hid hba
      have HR0 := Lib.hid hr0
      have HOK0 := Lib.hid HS.out.shr
      clear hba hrv hr0 hk hlt
      go_wp2_with fail
      go_loopw [9] (fun s wq => BxAt w wq c G GZ ids.length ZS (fun i => (ids.take i).foldl (oneF ht) (shrF S)) s) (fun s _ => ids.length - (intOf s).toNat)
      case atStart => exact ⟨0, us1, Nat.zero_le _, rfl, HB0.out, HR0.out⟩
      case round =>
        obtain ⟨i, us2, hi, rfl, hba, hrv⟩ := hrel
        by_cases hlt2 : i < ids.length
        · as_aux_lemma =>
          obtain ⟨id, hid⟩ : ∃ id, ids[i]? = some id := ⟨_, List.getElem?_eq_getElem hlt2⟩
          have hidl := HID.out id (List.mem_of_getElem? hid)
          obtain ⟨b, o, rfl, hbl, hrg⟩ := HNM.out.below hba.bel hid
          have hnx := folds_next ht (shrF S) hid
          obtain ⟨T, hT⟩ : ∃ T, T = (ids.take i).foldl (oneF ht) (shrF S) := ⟨_, rfl⟩
          have hrv' : RefV wr c us2 T := by rw [hT]; exact hrv
          have hOk : Ok n T := by rw [hT]; exact Ok.ones ht _ HOK0.out
          rw [← hT] at hnx
          have hW : Wids T.W := fun e he => (hOk.bk e he).2.1
          have hfd := fun W (hv : RefV W c us2 T) => find_any c id us2 T W hc hidl hv hW (by have := hOk.len; omega)
          have hfg := fun W (hv : RefV W c us2 T) => rforget_any c id us2 T W hc hidl hv hW (by have := hOk.len; omega)
          unfold nmV at hfd hfg
          have hi32 := size_raw (nmI c id) rfl
          obtain ⟨KN, hK⟩ : ∃ KN, KN = nmI c id := ⟨_, rfl⟩
          rw [← hK] at hrg hi32
          simp only [← hK] at hfd hfg
          have hsz := hrv'.size
          have HSZ := Lib.hid hsz
          have HBA := Lib.hid hba
          have HRV := Lib.hid hrv'
          have HRG := Lib.hid hrg
          have HFD := Lib.hid hfd
          have HFG := Lib.hid hfg
          have HI32 := Lib.hid hi32
          have HOK := Lib.hid hOk
          have HNX := Lib.hid hnx
          have HIDI := Lib.hid hid
          clear hba hrv hrv' hrg hfd hfg hi32 hsz hOk hnx hT hK hid hW
          cases hf : fIdx T.W id with
          | none =>
            as_aux_lemma =>
            have ef : findF T.W id = -1 := by unfold findF; rw [hf]
            have eO : oneF ht T id = T := by unfold oneF; rw [hf]
            simp only [ef] at HFD
            have HEO := Lib.hid eO
            clear ef eO hf
            go_wp2_with fail
            refine wp_region_held_drew (S := (fun w' => VRow w' G 30 us2 ∧ w'.rangeAt b (o + i * 32) (KN.map (Value.int .u8)))) (by kernel_rfl) ?_ (fun hHeld => ?_)
            · exact ⟨HBA.out.row, HRG.out⟩
            refine wpAnyH_take (i := 0) (oi := { dst := some 50, op := Go.Op.load 30 (Go.Operand.tmp 3), type := 30, pos := "ref.go:68", after := #[], guard := none }) (v := (.agg us2.toArray)) rfl (by kernel_rfl) (by kernel_rfl) (by kernel_rfl) (fun _ _ _ h => h) (yieldsIf_load_mid (by rfl) 30 (.tmp 3) rfl G 0 rfl us2 _ (fun w' h => vrow_range0 h.1) Try.underlying30 rfl HSZ.out) (by assumption) ?_
            try simp only [Act.put, List.setIfInBounds_toArray, List.set_cons_zero, List.set_cons_succ]
            refine wpAnyH_take (i := 1) (oi := { dst := some 51, op := Go.Op.move (Go.Operand.tmp 2), type := 67, pos := "ref.go:68", after := #[], guard := none }) (v := ?av1) rfl (by kernel_rfl) (by kernel_rfl) (by kernel_rfl) (fun _ _ _ h => h) (Or.inl ⟨by rfl, ?ay1⟩) (by assumption) ?ar1
            case ay1 => (intro w hSw; (try dsimp only at hSw); go_simp; try (with_reducible rfl))
            case ar1 =>
            try simp only [Act.put, List.setIfInBounds_toArray, List.set_cons_zero, List.set_cons_succ]
            refine wpAnyH_take (i := 2) (oi := { dst := some 52, op := Go.Op.move (Go.Operand.tmp 9), type := 3, pos := "ref.go:68", after := #[], guard := none }) (v := ?av2) rfl (by kernel_rfl) (by kernel_rfl) (by kernel_rfl) (fun _ _ _ h => h) (Or.inl ⟨by rfl, ?ay2⟩) (by assumption) ?ar2
            case ay2 => (intro w hSw; (try dsimp only at hSw); go_simp; try (with_reducible rfl))
            case ar2 =>
            try simp only [Act.put, List.setIfInBounds_toArray, List.set_cons_zero, List.set_cons_succ]
            refine wpAnyH_take (i := 3) (oi := { dst := some 53, op := Go.Op.indexAddr 67 (Go.Operand.tmp 51) (Go.Operand.tmp 52), type := 0, pos := "ref.go:68", after := #[{ on := 1, ground := Go.Ground.data }, { on := 2, ground := Go.Ground.data }], guard := none }) (v := ?av3) rfl (by kernel_rfl) (by kernel_rfl) (by kernel_rfl) (fun _ _ _ h => h) (Or.inl ⟨by rfl, ?ay3⟩) (by assumption) ?ar3
            case ay3 => (intro w hSw; (try dsimp only at hSw); go_simp; try (with_reducible rfl))
            case ar3 =>
            try simp only [Act.put, List.setIfInBounds_toArray, List.set_cons_zero, List.set_cons_succ]
            refine wpAnyH_take (i := 4) (oi := { dst := some 54, op := Go.Op.load 39 (Go.Operand.tmp 53), type := 39, pos := "ref.go:68", after := #[{ on := 3, ground := Go.Ground.data }], guard := none }) (v := (.agg (KN.map (Value.int .u8)).toArray)) rfl (by kernel_rfl) (by kernel_rfl) (by kernel_rfl) (fun _ _ _ h => h) (yieldsIf_load_mid (by rfl) 39 (.tmp 53) rfl b (o + i * 32) rfl (KN.map (Value.int .u8)) _ (fun w' h => h.2) Try.underlying39 rfl HI32.out) (by assumption) ?_
            try simp only [Act.put, List.setIfInBounds_toArray, List.set_cons_zero, List.set_cons_succ]
            refine wpAnyH_ready (rs := [5]) (by kernel_rfl) (by simp) ?_
            refine AllReadyH.cons (o := { dst := some 55, op := Go.Op.call { callee := Go.Callee.value (Go.Operand.func 31), args := #[Go.Operand.tmp 50, Go.Operand.tmp 54], argTypes := #[30, 39] }, type := 3, pos := "ref.go:68", after := #[{ on := 0, ground := Go.Ground.data }, { on := 4, ground := Go.Ground.data }], guard := none }) rfl (fun K hK => ?_) (AllReadyH.nil)
            go_simp
            refine (HFD.out _ HRV.out.drew).mono ?_
            rintro e4 w4 ⟨rfl, hb4⟩
            have HB4 := Lib.hid (HBA.out.drew.below hb4)
            have HR4 := Lib.hid (HRV.out.drew.below hb4)
            have HRG4 := Lib.hid (show w4.rangeAt b (o + i * 32) (KN.map (Value.int .u8)) from fun j v hv => (hb4.cell (p := ⟨b, _, none⟩) (Nat.lt_of_lt_of_le hbl HBA.out.bel.size)).trans (HRG.out j v hv))
            clear hb4
            refine hK.out _ _ ?_ (fun hHeld => ?_)
            · exact ⟨HB4.out.row, HRG4.out⟩
            clear hK K
            try simp only [Act.put, List.setIfInBounds_toArray, List.set_cons_zero, List.set_cons_succ]
            refine wpAnyH_take (i := 6) (oi := { dst := some 10, op := Go.Op.assign (Go.Operand.tmp 55), type := 3, pos := "ref.go:68", after := #[{ on := 5, ground := Go.Ground.data }, { on := 5, ground := Go.Ground.chain }, { on := 0, ground := Go.Ground.phase }, { on := 1, ground := Go.Ground.phase }, { on := 2, ground := Go.Ground.phase }, { on := 3, ground := Go.Ground.phase }, { on := 4, ground := Go.Ground.phase }, { on := 5, ground := Go.Ground.phase }], guard := none }) (v := ?a_5v6) rfl (by kernel_rfl) (by kernel_rfl) (by kernel_rfl) (fun _ _ _ h => h) (Or.inl ⟨by rfl, ?a_5y6⟩) (by assumption) ?a_5r6
            case a_5y6 => (intro w hSw; (try dsimp only at hSw); go_simp; try (with_reducible rfl))
            case a_5r6 =>
            try simp only [Act.put, List.setIfInBounds_toArray, List.set_cons_zero, List.set_cons_succ]
            refine wpAnyH_done (by kernel_rfl) ?_ _
            go_wp2_with fail
            exact ⟨⟨i + 1, us2, hlt2, by first | rfl | (rw [wrap_small2 (by omega) (by have := HVL.out; omega)]; rfl), HB4.out, by (have q := HR4.out; show RefV _ c us2 ((ids.take (i + 1)).foldl (oneF ht) (shrF S)); rw [HNX.out, HEO.out]; exact q)⟩, by first | exact meas_add hlt2 | exact meas_up hlt2 | exact meas_next hlt2 (wrap_small2 (by omega) (by have := HVL.out; omega))⟩
          | some j =>
            as_aux_lemma =>
            obtain ⟨e0, he0, hid0, hjl, hno0⟩ := fIdx_some hf
            clear hid0 hno0
            have ef : findF T.W id = (j : Int) := by unfold findF; rw [hf]
            have eO : oneF ht T id = ⟨(cntF T e0.bk (untF e0.ht ht)).A, (cntF T e0.bk (untF e0.ht ht)).I, T.W.eraseIdx j⟩ := by unfold oneF; rw [hf]; simp only [he0]
            have eF : forgetF T id = ⟨T.A, T.I, T.W.eraseIdx j⟩ := by unfold forgetF; rw [hf]
            simp only [ef] at HFD
            rw [eF] at HFG
            have hbke := HOK.out.bk e0 (List.mem_of_getElem? he0)
            have HEO := Lib.hid eO
            have HE0 := Lib.hid he0
            have dj : decide ((j : Int) < 0) = false := decide_eq_false (by omega)
            clear ef eO eF hf he0
            go_wp2_with fail
            refine wp_region_held_drew (S := (fun w' => VRow w' G 30 us2 ∧ w'.rangeAt b (o + i * 32) (KN.map (Value.int .u8)))) (by kernel_rfl) ?_ (fun hHeld => ?_)
            · exact ⟨HBA.out.row, HRG.out⟩
            refine wpAnyH_take (i := 0) (oi := { dst := some 50, op := Go.Op.load 30 (Go.Operand.tmp 3), type := 30, pos := "ref.go:68", after := #[], guard := none }) (v := (.agg us2.toArray)) rfl (by kernel_rfl) (by kernel_rfl) (by kernel_rfl) (fun _ _ _ h => h) (yieldsIf_load_mid (by rfl) 30 (.tmp 3) rfl G 0 rfl us2 _ (fun w' h => vrow_range0 h.1) Try.underlying30 rfl HSZ.out) (by assumption) ?_
            try simp only [Act.put, List.setIfInBounds_toArray, List.set_cons_zero, List.set_cons_succ]
            refine wpAnyH_take (i := 1) (oi := { dst := some 51, op := Go.Op.move (Go.Operand.tmp 2), type := 67, pos := "ref.go:68", after := #[], guard := none }) (v := ?bv1) rfl (by kernel_rfl) (by kernel_rfl) (by kernel_rfl) (fun _ _ _ h => h) (Or.inl ⟨by rfl, ?by1⟩) (by assumption) ?br1
            case by1 => (intro w hSw; (try dsimp only at hSw); go_simp; try (with_reducible rfl))
            case br1 =>
            try simp only [Act.put, List.setIfInBounds_toArray, List.set_cons_zero, List.set_cons_succ]
            refine wpAnyH_take (i := 2) (oi := { dst := some 52, op := Go.Op.move (Go.Operand.tmp 9), type := 3, pos := "ref.go:68", after := #[], guard := none }) (v := ?bv2) rfl (by kernel_rfl) (by kernel_rfl) (by kernel_rfl) (fun _ _ _ h => h) (Or.inl ⟨by rfl, ?by2⟩) (by assumption) ?br2
            case by2 => (intro w hSw; (try dsimp only at hSw); go_simp; try (with_reducible rfl))
            case br2 =>
            try simp only [Act.put, List.setIfInBounds_toArray, List.set_cons_zero, List.set_cons_succ]
            refine wpAnyH_take (i := 3) (oi := { dst := some 53, op := Go.Op.indexAddr 67 (Go.Operand.tmp 51) (Go.Operand.tmp 52), type := 0, pos := "ref.go:68", after := #[{ on := 1, ground := Go.Ground.data }, { on := 2, ground := Go.Ground.data }], guard := none }) (v := ?bv3) rfl (by kernel_rfl) (by kernel_rfl) (by kernel_rfl) (fun _ _ _ h => h) (Or.inl ⟨by rfl, ?by3⟩) (by assumption) ?br3
            case by3 => (intro w hSw; (try dsimp only at hSw); go_simp; try (with_reducible rfl))
            case br3 =>
            try simp only [Act.put, List.setIfInBounds_toArray, List.set_cons_zero, List.set_cons_succ]
            refine wpAnyH_take (i := 4) (oi := { dst := some 54, op := Go.Op.load 39 (Go.Operand.tmp 53), type := 39, pos := "ref.go:68", after := #[{ on := 3, ground := Go.Ground.data }], guard := none }) (v := (.agg (KN.map (Value.int .u8)).toArray)) rfl (by kernel_rfl) (by kernel_rfl) (by kernel_rfl) (fun _ _ _ h => h) (yieldsIf_load_mid (by rfl) 39 (.tmp 53) rfl b (o + i * 32) rfl (KN.map (Value.int .u8)) _ (fun w' h => h.2) Try.underlying39 rfl HI32.out) (by assumption) ?_
            try simp only [Act.put, List.setIfInBounds_toArray, List.set_cons_zero, List.set_cons_succ]
            refine wpAnyH_ready (rs := [5]) (by kernel_rfl) (by simp) ?_
            refine AllReadyH.cons (o := { dst := some 55, op := Go.Op.call { callee := Go.Callee.value (Go.Operand.func 31), args := #[Go.Operand.tmp 50, Go.Operand.tmp 54], argTypes := #[30, 39] }, type := 3, pos := "ref.go:68", after := #[{ on := 0, ground := Go.Ground.data }, { on := 4, ground := Go.Ground.data }], guard := none }) rfl (fun K hK => ?_) (AllReadyH.nil)
            go_simp
            refine (HFD.out _ HRV.out.drew).mono ?_
            rintro e4 w4 ⟨rfl, hb4⟩
            have HB4 := Lib.hid (HBA.out.drew.below hb4)
            have HR4 := Lib.hid (HRV.out.drew.below hb4)
            have HRG4 := Lib.hid (show w4.rangeAt b (o + i * 32) (KN.map (Value.int .u8)) from fun j v hv => (hb4.cell (p := ⟨b, _, none⟩) (Nat.lt_of_lt_of_le hbl HBA.out.bel.size)).trans (HRG.out j v hv))
            clear hb4
            refine hK.out _ _ ?_ (fun hHeld => ?_)
            · exact ⟨HB4.out.row, HRG4.out⟩
            clear hK K
            try simp only [Act.put, List.setIfInBounds_toArray, List.set_cons_zero, List.set_cons_succ]
            refine wpAnyH_take (i := 6) (oi := { dst := some 10, op := Go.Op.assign (Go.Operand.tmp 55), type := 3, pos := "ref.go:68", after := #[{ on := 5, ground := Go.Ground.data }, { on := 5, ground := Go.Ground.chain }, { on := 0, ground := Go.Ground.phase }, { on := 1, ground := Go.Ground.phase }, { on := 2, ground := Go.Ground.phase }, { on := 3, ground := Go.Ground.phase }, { on := 4, ground := Go.Ground.phase }, { on := 5, ground := Go.Ground.phase }], guard := none }) (v := ?b_5v6) rfl (by kernel_rfl) (by kernel_rfl) (by kernel_rfl) (fun _ _ _ h => h) (Or.inl ⟨by rfl, ?b_5y6⟩) (by assumption) ?b_5r6
            case b_5y6 => (intro w hSw; (try dsimp only at hSw); go_simp; try (with_reducible rfl))
            case b_5r6 =>
            try simp only [Act.put, List.setIfInBounds_toArray, List.set_cons_zero, List.set_cons_succ]
            refine wpAnyH_done (by kernel_rfl) ?_ _
            obtain ⟨_, sl, hsl, hwt⟩ := HR4.out
            obtain ⟨gw, cw, hform, hnc, hcm, hgl, hcells⟩ := hwt.at HE0.out
            have c312 : w4.cell? ⟨G, 312, none⟩ = some sl := HB4.out.row.cell hsl
            subst hform
            have hrgw : w4.rangeAt gw (j * 34) (wtC c e0) := fun a x hx => hcells a x hx
            obtain ⟨nT, hnT⟩ : ∃ nT, nT = T.W.length := ⟨_, rfl⟩
            rw [← hnT] at c312 hjl hnc
            have hnTc : (nT : Int) ≤ 1000 := by have := HOK.out.len; omega
            have hzw := zero_wt
            have hszw := size_wt
            obtain ⟨WZ, hWZ⟩ : ∃ WZ, WZ = ((List.replicate 32 (0 : Int)).map (Value.int .u8) ++ [Value.int .i64 0, Value.int .i64 0]) := ⟨_, rfl⟩
            have hwzl : WZ.length = 34 := by rw [hWZ]; rfl
            rw [← hWZ] at hzw
            obtain ⟨WC, hWC⟩ : ∃ WC, WC = wtC c e0 := ⟨_, rfl⟩
            have hwcl : WC.length = 34 := by rw [hWC]; rfl
            have hwc1 : WC.toArray.all (·.oneCell') = true := Array.all_eq_true_iff_forall_mem.2 (fun v hv => by rw [hWC] at hv; exact wtC_one c e0 v (by simpa using hv))
            have hw32 : WC[32]? = some (.int .i64 (e0.bk : Int)) := by rw [hWC]; rfl
            have hw33 : WC[33]? = some (.int .i64 e0.ht) := by rw [hWC]; rfl
            rw [← hWC] at hrgw
            have HSW := Lib.hid (show (Try.prog.info? 41).map (·.size) = some WC.length by rw [hwcl]; exact hszw)
            have HLW := Lib.hid (show WZ.length = WC.length by rw [hwzl, hwcl])
            have HRGW := Lib.hid hrgw
            have HWC1 := Lib.hid hwc1
            have HW32 := Lib.hid hw32
            have HW33 := Lib.hid hw33
            have hrt : VRow ((w4.alloc (.cells WZ.toArray 41)).setRow w4.heap.size WC.toArray) w4.heap.size 41 WC := (VRow.new w4 41 WZ).setRow WC
            have hb5 : Below w4.heap.size w4 ((w4.alloc (.cells WZ.toArray 41)).setRow w4.heap.size WC.toArray) := below_setRow ((Below.refl _ w4).alloc (Nat.le_refl _) _) (Nat.le_refl _) _
            obtain ⟨w5, hw5⟩ : ∃ z, z = ((w4.alloc (.cells WZ.toArray 41)).setRow w4.heap.size WC.toArray) := ⟨_, rfl⟩
            obtain ⟨GT, hGT⟩ : ∃ z, z = w4.heap.size := ⟨_, rfl⟩
            rw [← hw5] at hrt hb5
            rw [← hGT] at hrt
            have HW5 := Lib.hid hw5
            have HGT := Lib.hid hGT
            have HB5 := Lib.hid (HB4.out.below hb5)
            have HR5 := Lib.hid (HR4.out.below hb5)
            have HT5 := Lib.hid hrt
            have HRG5 := Lib.hid (show w5.rangeAt b (o + i * 32) (KN.map (Value.int .u8)) from fun j v hv => (hb5.cell (p := ⟨b, _, none⟩) (Nat.lt_of_lt_of_le hbl HB4.out.bel.size)).trans (HRG4.out j v hv))
            have HGTG := Lib.hid (show ¬ GT = G from fun q => by have := HB4.out.row.lt; omega)
            clear hsl hwt hcells hgl hrgw hwzl hwcl hwc1 hw32 hw33 hWZ hWC hrt hb5 hw5 hGT hszw hnT hcm
            go_upto_region 15 with (first
              | (refine wpList_load_mid rfl 41 _ rfl gw (j * 34) rfl WC _ HRGW.out Try.underlying41 rfl HSW.out ?_)
              | (refine wpList_store_vrow rfl 41 _ _ rfl rfl rfl (VRow.new _ _ WZ) HSW.out HLW.out HWC1.out ?_))
            change Code.wp _ _ _ _ ((w4.alloc (.cells WZ.toArray 41)).setRow w4.heap.size WC.toArray)
            rw [← HW5.out, show w4.heap.size = GT from HGT.out.symm]
            clear HW5 HGT
            try dsimp only [Act.put]
            refine wp_region_held_drew (S := (fun w' => w'.rangeAt b (o + i * 32) (KN.map (Value.int .u8)))) (by kernel_rfl) ?_ (fun hHeld => ?_)
            · exact HRG5.out
            refine wpAnyH_take (i := 1) (oi := { dst := some 64, op := Go.Op.move (Go.Operand.tmp 2), type := 67, pos := "ref.go:73", after := #[], guard := none }) (v := ?cv1) rfl (by kernel_rfl) (by kernel_rfl) (by kernel_rfl) (fun _ _ _ h => h) (Or.inl ⟨by rfl, ?cy1⟩) (by assumption) ?cr1
            case cy1 => (intro w hSw; (try dsimp only at hSw); go_simp; try (with_reducible rfl))
            case cr1 =>
            try simp only [Act.put, List.setIfInBounds_toArray, List.set_cons_zero, List.set_cons_succ]
            refine wpAnyH_take (i := 2) (oi := { dst := some 65, op := Go.Op.move (Go.Operand.tmp 9), type := 3, pos := "ref.go:73", after := #[], guard := none }) (v := ?cv2) rfl (by kernel_rfl) (by kernel_rfl) (by kernel_rfl) (fun _ _ _ h => h) (Or.inl ⟨by rfl, ?cy2⟩) (by assumption) ?cr2
            case cy2 => (intro w hSw; (try dsimp only at hSw); go_simp; try (with_reducible rfl))
            case cr2 =>
            try simp only [Act.put, List.setIfInBounds_toArray, List.set_cons_zero, List.set_cons_succ]
            refine wpAnyH_take (i := 3) (oi := { dst := some 66, op := Go.Op.indexAddr 67 (Go.Operand.tmp 64) (Go.Operand.tmp 65), type := 0, pos := "ref.go:73", after := #[{ on := 1, ground := Go.Ground.data }, { on := 2, ground := Go.Ground.data }], guard := none }) (v := ?cv3) rfl (by kernel_rfl) (by kernel_rfl) (by kernel_rfl) (fun _ _ _ h => h) (Or.inl ⟨by rfl, ?cy3⟩) (by assumption) ?cr3
            case cy3 => (intro w hSw; (try dsimp only at hSw); go_simp; try (with_reducible rfl))
            case cr3 =>
            try simp only [Act.put, List.setIfInBounds_toArray, List.set_cons_zero, List.set_cons_succ]
            refine wpAnyH_take (i := 4) (oi := { dst := some 67, op := Go.Op.load 39 (Go.Operand.tmp 66), type := 39, pos := "ref.go:73", after := #[{ on := 3, ground := Go.Ground.data }], guard := none }) (v := (.agg (KN.map (Value.int .u8)).toArray)) rfl (by kernel_rfl) (by kernel_rfl) (by kernel_rfl) (fun _ _ _ h => h) (yieldsIf_load_mid (by rfl) 39 (.tmp 66) rfl b (o + i * 32) rfl (KN.map (Value.int .u8)) _ (fun w' h => h) Try.underlying39 rfl HI32.out) (by assumption) ?_
            try simp only [Act.put, List.setIfInBounds_toArray, List.set_cons_zero, List.set_cons_succ]
            refine wpAnyH_ready (rs := [0]) (by kernel_rfl) (by simp) ?_
            refine AllReadyH.cons (o := { dst := some 63, op := Go.Op.load 30 (Go.Operand.tmp 3), type := 30, pos := "ref.go:73", after := #[], guard := none }) rfl (fun K hK => ?_) (AllReadyH.nil)
            refine wp_load_mid 30 (.tmp 3) rfl G 0 rfl us2 _ (vrow_range0 HB5.out.drew.row) Try.underlying30 rfl HSZ.out ?_
            refine hK.out _ _ ?_ (fun hHeld => ?_)
            · exact HRG5.out
            clear hK K
            try simp only [Act.put, List.setIfInBounds_toArray, List.set_cons_zero, List.set_cons_succ]
            refine wpAnyH_ready (rs := [5]) (by kernel_rfl) (by simp) ?_
            refine AllReadyH.cons (o := { dst := some 68, op := Go.Op.call { callee := Go.Callee.value (Go.Operand.func 21), args := #[Go.Operand.tmp 63, Go.Operand.tmp 67], argTypes := #[30, 39] }, type := 30, pos := "ref.go:73", after := #[{ on := 0, ground := Go.Ground.data }, { on := 4, ground := Go.Ground.data }], guard := none }) rfl (fun K hK => ?_) (AllReadyH.nil)
            go_simp
            refine (HFG.out _ HR5.out.drew).mono ?_
            rintro e6 w6 ⟨us3, rfl, hr6, hb6⟩
            have HB6 := Lib.hid (HB5.out.drew.below hb6)
            have HR6 := Lib.hid hr6
            have HL6 := Lib.hid (show us2.length = us3.length by rw [HR6.out.1.len, HR5.out.1.len])
            have HRG6 := Lib.hid (show w6.rangeAt b (o + i * 32) (KN.map (Value.int .u8)) from fun j v hv => (hb6.cell (p := ⟨b, _, none⟩) (Nat.lt_of_lt_of_le hbl HB5.out.bel.size)).trans (HRG5.out j v hv))
            have HT6 := Lib.hid (VRow.below (w := w5.drew) HT5.out hb6 HT5.out.lt)
            clear hb6 hr6
            refine hK.out _ _ ?_ (fun hHeld => ?_)
            · exact HRG6.out
            clear hK K
            try simp only [Act.put, List.setIfInBounds_toArray, List.set_cons_zero, List.set_cons_succ]
            refine wpAnyH_ready (rs := [6]) (by kernel_rfl) (by simp) ?_
            refine AllReadyH.cons (o := { dst := none, op := Go.Op.store 30 (Go.Operand.tmp 3) (Go.Operand.tmp 68), type := 0, pos := "ref.go:73", after := #[{ on := 5, ground := Go.Ground.data }, { on := 5, ground := Go.Ground.chain }, { on := 0, ground := Go.Ground.phase }, { on := 1, ground := Go.Ground.phase }, { on := 2, ground := Go.Ground.phase }, { on := 3, ground := Go.Ground.phase }, { on := 4, ground := Go.Ground.phase }, { on := 5, ground := Go.Ground.phase }], guard := none }) rfl (fun K hK => ?_) (AllReadyH.nil)
            refine wp_store_vrow 30 (.tmp 3) (.tmp 68) rfl rfl rfl HB6.out.row HR6.out.size HL6.out HR6.out.one ?_
            refine hK.out _ _ ?_ (fun hHeld => ?_)
            · exact fun a v hv => ((Turns.setRow (S := fun q => q = G) (Turns.refl _ w6) (fun _ => rfl) us3.toArray).cell (p := ⟨b, _, none⟩) (Nat.lt_of_lt_of_le hbl HB6.out.bel.size) (fun q => by have q' : b = G := q; have := HB6.out.geG; omega)).trans (HRG6.out a v hv)
            clear hK K
            try simp only [Act.put]
            refine wpAnyH_done (by kernel_rfl) ?_ _
            have hb7 := HB6.out.setRow us3
            have hr7 := BlkAt.turned HR6.out HB6.out.row (Turns.setRow (S := fun q => q = G) (Turns.refl _ w6) (fun _ => rfl) us3.toArray)
            have ht7 : VRow (w6.setRow G us3.toArray) GT 41 WC := HT6.out.turns (S := fun q => q = G) (Turns.setRow (S := fun q => q = G) (Turns.refl _ w6) (fun _ => rfl) us3.toArray) HGTG.out
            obtain ⟨w7, hw7⟩ : ∃ z, z = w6.setRow G us3.toArray := ⟨_, rfl⟩
            change Exit.then _ _ Exit.normal _ (w6.setRow G us3.toArray)
            rw [← hw7] at hb7 hr7 ht7 ⊢
            obtain ⟨k, hk⟩ : ∃ k, k = e0.bk := ⟨_, rfl⟩
            obtain ⟨h0, hh0⟩ : ∃ h0, h0 = e0.ht := ⟨_, rfl⟩
            rw [← hk, ← hh0] at hbke HEO
            rw [← hk] at HW32
            rw [← hh0] at HW33
            obtain ⟨hk24, hx256, q0, q1⟩ := hbke
            clear hx256
            have hk24' : (k : Int) < 24 := by omega
            have cell := hb7.row.drew_cell (hr7.1.all k hk24)
            have cw := ht7.drew_cell HW32.out
            have fr := hb7.row.free k
            have b1 := HOK.out.a0 k hk24
            have b2 := HOK.out.a2 hk24
            obtain ⟨x, hx⟩ : ∃ x, x = T.A k := ⟨_, rfl⟩
            rw [show (⟨T.A, T.I, T.W.eraseIdx j⟩ : Bs).A k = x from hx.symm] at cell
            rw [← hx] at b1 b2
            have bx : 0 ≤ x ∧ x + 1000 ≤ 1000000000 := by omega
            have hb8 := (hb7.set k (.int .i64 (x + 1000))).drew
            have hr8 := (hb7.setA hr7 hk24 (x + 1000)).congr (S' := cntU T k (untF h0 ht) (T.W.eraseIdx j) 0) (fun a _ => by
              show (if a = k then x + 1000 else T.A a) = if a = k then T.A a + 1000 else T.A a
              by_cases e : a = k
              · subst e; rw [if_pos rfl, if_pos rfl, hx]
              · rw [if_neg e, if_neg e]) (fun a s _ _ => by
              show T.I a s = if a = k ∧ untF h0 ht ≤ (s : Int) + 1 ∧ s < 0 then T.I a s + 1000 else T.I a s
              rw [if_neg (by omega)]) rfl
            have ht8 : VRow (w7.setCell ⟨G, k, none⟩ (.int .i64 (x + 1000))) GT 41 WC := ht7.turns (S := fun q => q = G) (Turns.setCell (S := fun q => q = G) (Turns.refl _ w7) (p := ⟨G, k, none⟩) (fun _ => rfl) _) HGTG.out
            have HB8 := Lib.hid hb8
            have HR8 := Lib.hid hr8.drew
            have HT8 := Lib.hid ht8
            clear hb7 hr7 ht7 hw7 hk hh0 hx hb8 hr8 ht8 b1 b2
            as_aux_lemma =>
            go_wp2_with fail
            go_region
            all_goals go_wp2_with fail
            clear cw fr cell bx dj hnc hjl c312 hnTc hzw
            go_loopw [12] (fun s wq => CtAt w wq c G GZ GT ZS WC (cntU T k (untF h0 ht) (T.W.eraseIdx j)) s) (fun s _ => 13 - (intOf s).toNat)
            case atStart => exact ⟨0, _, by omega, rfl, HB8.out, HR8.out, HT8.out⟩
            case round =>
              obtain ⟨t, us4, ht12, rfl, hba, hrv, hvt⟩ := hrel
              by_cases hlt3 : t < 12
              · as_aux_lemma =>
                have dt : decide (((t + 1 : Nat) : Int) ≤ 12) = true := decide_eq_true (by omega)
                have cw33 := hvt.cell HW33.out
                have cw32 := hvt.cell HW32.out
                have celli := hba.row.cell (hrv.1.wi k t hk24 hlt3)
                have fr := hba.row.free (24 + k * 12 + t)
                have ez : (cntU T k (untF h0 ht) (T.W.eraseIdx j) t).I k t = T.I k t := by
                  show (if k = k ∧ untF h0 ht ≤ (t : Int) + 1 ∧ t < t then T.I k t + 1000 else T.I k t) = T.I k t
                  exact if_neg (by omega)
                rw [ez] at celli
                have b1 := HOK.out.i0 k t hk24 hlt3
                have b2 := HOK.out.i2 hk24 hlt3
                obtain ⟨z, hz⟩ : ∃ z, z = T.I k t := ⟨_, rfl⟩
                rw [← hz] at celli b1 b2
                have bz : 0 ≤ z ∧ z + 1000 ≤ 1000000000 := by omega
                have hset := fun (hU : untF h0 ht ≤ (t : Int) + 1) => (hba.setI hrv hk24 hlt3 (z + 1000)).congr (S' := cntU T k (untF h0 ht) (T.W.eraseIdx j) (t + 1)) (fun a _ => rfl) (fun a s _ _ => by
                  have q := cntU_next (T := T) (k := k) (W := T.W.eraseIdx j) hU a s
                  rw [ez, ← hz] at q
                  exact q) rfl
                have hskip := fun (hU : ¬ untF h0 ht ≤ (t : Int) + 1) => hrv.congr (S' := cntU T k (untF h0 ht) (T.W.eraseIdx j) (t + 1)) (fun a _ => rfl) (fun a s _ _ => cntU_skip hU a s) rfl
                have hbs := (hba.set (24 + k * 12 + t) (.int .i64 (z + 1000))).drew
                have hvs : VRow (wr.setCell ⟨G, 24 + k * 12 + t, none⟩ (.int .i64 (z + 1000))) GT 41 WC := hvt.turns (S := fun q => q = G) (Turns.setCell (S := fun q => q = G) (Turns.refl _ wr) (p := ⟨G, 24 + k * 12 + t, none⟩) (fun _ => rfl) _) HGTG.out
                have HBS := Lib.hid hbs
                have HVS := Lib.hid hvs
                have HSET := Lib.hid hset
                have HSKIP := Lib.hid hskip
                have HB10 := Lib.hid hba
                have HV10 := Lib.hid hvt
                have f2 : wrap64 (((t + 1 : Nat) : Int) - 1) = (t : Int) := by unfold wrap64; omega
                have f3 : wrap64 ((t : Int) + 1 - 1) = (t : Int) := by unfold wrap64; omega
                have eT : IntKind.u64.wrap ((t + 1 : Nat) : Int) = ((t + 1 : Nat) : Int) := by rw [IntKind.wrap_u64]; omega
                have eT2 : IntKind.u64.wrap ((t : Int) + 1) = (t : Int) + 1 := by rw [IntKind.wrap_u64]; omega
                have eU1 : ht ≤ h0 → untF h0 ht = 1 := fun q => by unfold untF; rw [if_pos q]
                have eU2 : ¬ ht ≤ h0 → untF h0 ht = min (ht - h0) 13 := fun q => by unfold untF; rw [if_neg q]
                have EU1 := Lib.hid eU1
                have EU2 := Lib.hid eU2
                clear hba hrv hvt ez b1 b2 hz hset hskip hbs hvs eU1 eU2
                by_cases hle : ht ≤ h0
                · have dle : decide (ht ≤ h0) = true := decide_eq_true hle
                  have HU := Lib.hid (HSET.out (by rw [EU1.out hle]; omega))
                  clear hle
                  go_wp2_with fail
                  go_region
                  all_goals go_wp2_with fail
                  all_goals exact ⟨⟨t + 1, _, hlt3, by first | rfl | (rw [wrap_inc1 (by omega)]), HBS.out, HU.out.drew, HVS.out⟩, by first | exact meas_13 hlt3 | exact meas_13b hlt3 | exact meas_13c hlt3⟩
                · have dle : decide (ht ≤ h0) = false := decide_eq_false hle
                  obtain ⟨d, hd⟩ : ∃ d, d = ht - h0 := ⟨_, rfl⟩
                  have eD : IntKind.u64.wrap (IntKind.u64.wrap ht - IntKind.u64.wrap h0) = d := by
                    simp only [IntKind.wrap_u64]
                    omega
                  have hu2 := EU2.out hle
                  rw [← hd] at hu2
                  by_cases hdt : d ≤ (t : Int) + 1
                  · have dd1 : decide (d ≤ ((t + 1 : Nat) : Int)) = true := decide_eq_true (by omega)
                    have dd2 : decide (d ≤ (t : Int) + 1) = true := decide_eq_true hdt
                    have HU := Lib.hid (HSET.out (by rw [hu2]; omega))
                    clear hle hd hu2 hdt
                    go_wp2_with fail
                    go_region
                    all_goals go_wp2_with fail
                    all_goals exact ⟨⟨t + 1, _, hlt3, by first | rfl | (rw [wrap_inc1 (by omega)]), HBS.out, HU.out.drew, HVS.out⟩, by first | exact meas_13 hlt3 | exact meas_13b hlt3 | exact meas_13c hlt3⟩
                  · have dd1 : decide (d ≤ ((t + 1 : Nat) : Int)) = false := decide_eq_false (by omega)
                    have dd2 : decide (d ≤ (t : Int) + 1) = false := decide_eq_false hdt
                    have HU := Lib.hid (HSKIP.out (by rw [hu2]; omega))
                    clear hle hd hu2 hdt
                    go_wp2_with fail
                    all_goals exact ⟨⟨t + 1, _, hlt3, by first | rfl | (rw [wrap_inc1 (by omega)]), HB10.out, HU.out, HV10.out⟩, by first | exact meas_13 hlt3 | exact meas_13b hlt3 | exact meas_13c hlt3⟩
              · as_aux_lemma =>
                have dt : decide (((t + 1 : Nat) : Int) ≤ 12) = false := decide_eq_false (by omega)
                have hr11 := hrv.congr (S' := oneF ht T id) (fun a _ => by rw [HEO.out]; rfl) (fun a s _ hs => by
                  rw [HEO.out]
                  show (if a = k ∧ untF h0 ht ≤ (s : Int) + 1 ∧ s < t then T.I a s + 1000 else T.I a s) = if a = k ∧ untF h0 ht ≤ (s : Int) + 1 then T.I a s + 1000 else T.I a s
                  by_cases e : a = k ∧ untF h0 ht ≤ (s : Int) + 1
                  · rw [if_pos ⟨e.1, e.2, by omega⟩, if_pos e]
                  · rw [if_neg (fun q => e ⟨q.1, q.2.1⟩), if_neg e]) (by rw [HEO.out]; rfl)
                have HB11 := Lib.hid hba
                have HR11 := Lib.hid hr11
                clear hba hrv hvt hr11
                go_wp2_with fail
                exact ⟨⟨i + 1, us4, hlt2, by first | rfl | (rw [wrap_small2 (by omega) (by have := HVL.out; omega)]; rfl), HB11.out, by (have q := HR11.out; show RefV _ c us4 ((ids.take (i + 1)).foldl (oneF ht) (shrF S)); rw [HNX.out]; exact q)⟩, by first | exact meas_add hlt2 | exact meas_up hlt2 | exact meas_next hlt2 (wrap_small2 (by omega) (by have := HVL.out; omega))⟩
        · have di : decide ((i : Int) < (ids.length : Int)) = false := decide_eq_false (by omega)
          have hi' : i = ids.length := by omega
          have hr9 : RefV wr c us2 (blockF S ht ids) := by
            have q : RefV wr c us2 ((ids.take i).foldl (oneF ht) (shrF S)) := hrv
            rw [hi', List.take_length] at q
            exact q
          have HB9 := Lib.hid hba
          have HR9 := Lib.hid hr9
          have HL9 := Lib.hid (show ZS.length = us2.length by rw [HZL.out, hr9.1.len])
          clear hba hrv hr9 hi'
          go_wp2_with (first
            | (refine wpList_load_vrow rfl 30 _ rfl rfl HB9.out.row Try.underlying30 HR9.out.size ?_)
            | (refine wpList_store_vrow rfl 30 _ _ rfl rfl rfl HB9.out.res HR9.out.size HL9.out HR9.out.one ?_))
          refine bodyPost_ret (v := .agg us2.toArray) ?_ rfl ⟨us2, rfl, (blkAt_end HB9.out HR9.out).1, (blkAt_end HB9.out HR9.out).2.1⟩
          exact results_cell_row Try.results22 _ _ GZ 30 us2.toArray (0, 0) _ rfl (blkAt_end HB9.out HR9.out).2.2 Try.underlying30 rfl (by rw [List.size_toArray]; exact HR9.out.size)
end Go.Proofs.Ytfhpodeppmnopaa
