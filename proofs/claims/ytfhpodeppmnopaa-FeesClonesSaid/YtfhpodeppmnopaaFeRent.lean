/-
  The reference's Enter. Conditions: numbers of 64 bits; a hundred thousand that wait at most.
-/
import Derived.Test.YtfhpodeppmnopaaFeFind
import Derived.Test.YtfhpodeppmnopaaFeEnter
namespace Go.Proofs.Ytfhpodeppmnopaa
open Go.RowKit

theorem yieldsIf_build {ops : Array Oper} {S : World → Prop} {op : Oper} {a : Act} (hw : Region.wanted op (yielded ops a.tmps) = true) (ty : TypeId) (parts : Array (Nat × Operand)) (ho : op.op = .build ty parts) (v : Value)
    (hx : ∀ w, (Instr.build ty (parts.map fun p => (p.1, a.eval p.2))).run Try.prog w = .ok v w) : YieldsIf Try.prog ops S op v a :=
  .inl ⟨hw, fun w _ => by
    unfold execOp
    have h := hx w
    simp only [ho, h, Sem.run_bind, Sem.run_pure, Result.andThen_ok]⟩
theorem vrow_alloc {w : World} {g : Nat} {t : TypeId} {vs : List Value} (h : VRow w g t vs) (o : Obj) : VRow (w.alloc o) g t vs := (Below.heap_alloc _ _ _ h.lt).trans h
theorem WtS.source {w : World} {c : Nat} {v : Value} {W : List Ent} (h : WtS w c v W) (hl : W.length ≤ 1000000) :
    (v = .slice none 0 0 ∧ W.length = 0 ∧ W.flatMap (wtC c) = []) ∨ ∃ g o cap, v = .slice (some ⟨g, o, none⟩) W.length cap ∧ (W.flatMap (wtC c)).length = W.length * 34 ∧ (∀ j x, (W.flatMap (wtC c))[j]? = some x → w.cell? ⟨g, o + j, none⟩ = some x) ∧ ∀ x ∈ W.flatMap (wtC c), x.oneCell' = true := by
  have hone : ∀ x ∈ W.flatMap (wtC c), x.oneCell' = true := fun x hx => by
    obtain ⟨e, _, hx⟩ := List.mem_flatMap.1 hx
    unfold wtC at hx
    rcases List.mem_append.1 hx with hx | hx
    · obtain ⟨z, _, rfl⟩ := List.mem_map.1 hx
      rfl
    · simp only [List.mem_cons, List.not_mem_nil, or_false] at hx
      rcases hx with rfl | rfl <;> rfl
  rcases id h.2 with ⟨hv, h0⟩ | ⟨g, cap, cur, hv, _, hg, hnc, hcm, _, _⟩
  · have : W = [] := List.eq_nil_of_length_eq_zero h0
    exact .inl ⟨hv, h0, by rw [this]; rfl⟩
  · refine .inr ⟨g, 0, cap, hv, h.1, fun j x hx => ?_, hone⟩
    have h1 := World.ownsRow.cells (g := g) h (by rw [hv]; rfl) j x hx
    have hadd : (⟨g, 0, none⟩ : Addr).add j = ⟨g, 0 + j, none⟩ := by unfold Addr.add; split <;> simp_all
    rw [hadd] at h1
    exact h1
theorem WtS.snoc {w : World} {c n : Nat} {v : Value} {W : List Ent} {e : Ent} (h : w.ownsRow 0 41 34 v n (W.flatMap (wtC c) ++ wtC c e)) (hn : n = W.length + 1) : WtS w c v (W ++ [e]) := by
  unfold WtS
  rw [List.flatMap_append, List.length_append]
  subst hn
  simpa using h
theorem WtS.not_row {w : World} {c k : Nat} {v : Value} {W : List Ent} {t : TypeId} {vs : List Value} (h : WtS w c v W) (hr : VRow w k t vs) (ht : t ≠ 41) : v.ownBlock ≠ some k := by
  intro hk
  rcases h.2 with ⟨rfl, _⟩ | ⟨g', cap, cur, rfl, _, hg, _⟩
  · simp [Value.ownBlock] at hk
  · have hk' : g' = k := by simpa [Value.ownBlock] using hk
    subst hk'
    have h1 : w.heap[g']? = _ := hr
    rw [hg] at h1
    injection h1 with h1
    injection h1 with _ h1
    exact ht h1.symm
/-- append at an operation of a region that draws its order. -/
theorem op_append_wt {w : World} {o : Oper} {a : Act} {K : Act → World → Prop} {Q : Exit → Act → World → Prop} (s x : Operand)
    (ho : o.op = .call { callee := .builtin .append, args := #[s, x], argTypes := #[28, 28] })
    (v : Value) (n : Nat) (xs : List Value) (hs : a.eval s = v) (hown : w.ownsRow 0 41 34 v n xs) (u : Value) (m : Nat) (news : List Value) (hx : a.eval x = u)
    (hu : (u = .slice none 0 0 ∧ m = 0 ∧ news = []) ∨ ∃ g o c, u = .slice (some ⟨g, o, none⟩) m c ∧ news.length = m * 34 ∧ (∀ j x, news[j]? = some x → w.cell? ⟨g, o + j, none⟩ = some x) ∧ ∀ x ∈ news, x.oneCell' = true)
    (hn : n + m ≤ 1000000)
    (h : ∀ v' w', w'.ownsRow 0 41 34 v' (n + m) (xs ++ news) → w.grownBy w' v.ownBlock → (v'.ownBlock = v.ownBlock ∨ v'.ownBlock = some w.heap.size) → K (a.put o.dst v') w') :
    o.wp Try.prog a w K Q := by
  obtain ⟨v', w', hrun, h2, h3, h4⟩ := run_append_wt w o.type v n xs hown u m news hu hn
  unfold Oper.wp execOp
  simp only [ho, resolve, invoke, builtin, Sem.run_bind, Sem.run_pure, Result.andThen_ok, List.map_toArray, List.map_cons, List.map_nil, hs, hx, hrun]
  exact h v' w' h2 h3 h4
theorem wtC_one (c : Nat) (e : Ent) : ∀ x ∈ wtC c e, x.oneCell' = true := fun x hx => by
  unfold wtC at hx
  rcases List.mem_append.1 hx with hx | hx
  · obtain ⟨z, _, rfl⟩ := List.mem_map.1 hx
    rfl
  · simp only [List.mem_cons, List.not_mem_nil, or_false] at hx
    rcases hx with rfl | rfl <;> rfl
theorem own_from {w : World} {n cp k : Nat} {v : Value} {o : Obj} (h : v.ownBlock = (Value.slice (some ⟨w.heap.size, 0, none⟩) n cp).ownBlock ∨ v.ownBlock = some (w.alloc o).heap.size) (hk : v.ownBlock = some k) : w.heap.size ≤ k := by
  rcases h with q | q
  · rw [q] at hk
    have q2 : some w.heap.size = some k := hk
    injection q2 with q2
    omega
  · rw [q, World.size_alloc] at hk
    injection hk with hk
    omega
/-- What a function of the reference's book leaves. -/
def RefOut (w : World) (c : Nat) (S : Bs) (e : Ending) (w' : World) : Prop := ∃ us', e = .returned (.agg us'.toArray) ∧ RefV w' c us' S ∧ Below w.heap.size w w'
/-- The two boxes and the result's place. -/
structure RefAt (w wr : World) (c G GK GZ : Nat) (us : List Value) (K : List Int) (zs : List Value) : Prop where
  row : VRow wr G 30 us
  key : IRow wr GK 39 .u8 K
  res : VRow wr GZ 30 zs
  bel : Below w.heap.size w wr
  ne : G ≠ GZ
  geG : w.heap.size ≤ G
  geZ : w.heap.size ≤ GZ
theorem RefAt.drew {w wr : World} {c G GK GZ : Nat} {us zs : List Value} {K : List Int} (h : RefAt w wr c G GK GZ us K zs) : RefAt w wr.drew c G GK GZ us K zs := ⟨h.row, h.key.drew, h.res, h.bel.drew, h.ne, h.geG, h.geZ⟩
theorem RefAt.below {w wr wr' : World} {c G GK GZ : Nat} {us zs : List Value} {K : List Int} (h : RefAt w wr c G GK GZ us K zs) (hb : Below wr.heap.size wr wr') : RefAt w wr' c G GK GZ us K zs :=
  ⟨h.row.below hb h.row.lt, h.key.below hb h.key.lt, h.res.below hb h.res.lt, h.bel.trans (hb.mono h.bel.size), h.ne, h.geG, h.geZ⟩
theorem RefAt.set {w wr : World} {c G GK GZ : Nat} {us zs : List Value} {K : List Int} (h : RefAt w wr c G GK GZ us K zs) (i : Nat) (v : Value) : RefAt w (wr.setCell ⟨G, i, none⟩ v) c G GK GZ (us.set i v) K zs :=
  ⟨h.row.set _ _, h.key.setCell (fun q => by
    have q' : G = GK := q
    have h1 : wr.heap[G]? = _ := h.row
    have h2 : wr.heap[GK]? = _ := h.key
    rw [← q', h1] at h2
    injection h2 with h2
    injection h2 with _ h2
    exact absurd h2 (by decide)) _, (Below.heap_setCell _ _ _ _ (fun q => h.ne q.symm)).trans h.res, h.bel.setCell h.geG _, h.ne, h.geG, h.geZ⟩
theorem RefAt.put {w wr : World} {c G GK GZ : Nat} {us zs : List Value} {K : List Int} {A : Nat → Int} {I : Nat → Nat → Int} {v : Value} {W : List Ent} (h : RefAt w wr c G GK GZ us K zs) (hc : RCnt us A I) (hv : WtS wr c v W) : RefV (wr.setCell ⟨G, 312, none⟩ v) c (us.set 312 v) ⟨A, I, W⟩ :=
  ⟨hc.setW v, v, by rw [List.getElem?_set, if_pos rfl, if_pos (by rw [hc.len]; omega)], hv.turns (S := fun i => i = G) (Turns.setCell (S := fun i => i = G) (Turns.refl _ wr) (p := ⟨G, 312, none⟩) (fun _ => rfl) v) (fun k hk q => by subst q; exact hv.not_row h.row (by decide) hk)⟩
theorem refAt_start (w : World) (c : Nat) (us : List Value) (K : List Int) (zs : List Value) :
    RefAt w (((w.alloc (.cells us.toArray 30)).alloc (.cells (K.map (Value.int .u8)).toArray 39)).alloc (.cells zs.toArray 30)) c w.heap.size (w.heap.size + 1) (w.heap.size + 2) us K zs := by
  have r1 := VRow.new w 30 us
  have r2 := IRow.new (w.alloc (.cells us.toArray 30)) 39 .u8 K
  have r3 := VRow.new ((w.alloc (.cells us.toArray 30)).alloc (.cells (K.map (Value.int .u8)).toArray 39)) 30 zs
  rw [World.size_alloc] at r2
  rw [World.size_alloc, World.size_alloc] at r3
  exact ⟨vrow_alloc (vrow_alloc r1 _) _, r2.alloc _, r3, (((Below.refl _ w).alloc (Nat.le_refl _) _).alloc (by simp) _).alloc (by simp; omega) _, by omega, Nat.le_refl _, by omega⟩
/-- The end of each: the box is loaded, and stored as the result. -/
theorem refAt_end {w wr : World} {c G GK GZ : Nat} {us zs : List Value} {K : List Int} {S : Bs} (h : RefAt w wr c G GK GZ us K zs) (hv : RefV wr c us S) :
    RefV (wr.setRow GZ us.toArray) c us S ∧ Below w.heap.size w (wr.setRow GZ us.toArray) ∧ VRow (wr.setRow GZ us.toArray) GZ 30 us := by
  refine ⟨?_, below_setRow h.bel h.geZ _, h.res.setRow us⟩
  have t : Turns (fun i => i = GZ) wr (wr.setRow GZ us.toArray) := Turns.setRow (S := fun i => i = GZ) (Turns.refl _ wr) (fun _ => rfl) _
  refine hv.turns t (fun sl hsl k hk q => ?_)
  obtain ⟨_, sl', hsl', hwt⟩ := hv
  rw [hsl] at hsl'
  injection hsl' with hsl'
  subst hsl'
  subst q
  exact hwt.not_row h.res (by decide) hk

set_option maxRecDepth 100000 in
set_option maxHeartbeats 6400000 in
theorem rent_any (c id n : Nat) (us : List Value) (S : Bs) (r ht : Int) (w : World) (hc : c < 256) (hid : id < 256) (h : RefV w c us S) (hW : Wids S.W) (hl : S.W.length ≤ 100000) (hr : r ≤ 9223372036854775807) :
    Calls Try.prog 23 #[.agg us.toArray, nmV c id, .int .i64 r, .int .i64 ht] w (RefOut w c (enterF S id r ht)) := by
  have hzr := zero_ref
  have hzl := zRef_len
  have hsz := h.size
  have hone := h.one
  have hfd := fun W (hv : RefV W c us S) => find_any c id us S W hc hid hv hW (by omega)
  have hbk := fun W => bucket_any r W hr
  have hzi : (Try.prog.info? 30).map (·.size) = some zRef.length := by rw [zRef_len]; exact info_refbook
  have hbw := fun W => build_wait c ⟨id, bkF r, ht⟩ W
  unfold nmV at hfd hbw ⊢
  have hi := size_raw (nmI c id) rfl
  obtain ⟨K, hK⟩ : ∃ K, K = nmI c id := ⟨_, rfl⟩
  rw [← hK] at hi ⊢
  simp only [← hK] at hfd hbw
  have hat := refAt_start w c us K zRef
  obtain ⟨ZS, hZS⟩ : ∃ ZS, ZS = zRef := ⟨_, rfl⟩
  rw [← hZS] at hat hzl hzi
  rw [← hZS] at hzr
  obtain ⟨w1, hw1⟩ : ∃ z, z = (((w.alloc (.cells us.toArray 30)).alloc (.cells (K.map (Value.int .u8)).toArray 39)).alloc (.cells ZS.toArray 30)) := ⟨_, rfl⟩
  obtain ⟨G, hG⟩ : ∃ z, z = w.heap.size := ⟨_, rfl⟩
  obtain ⟨GK, hGK⟩ : ∃ z, z = w.heap.size + 1 := ⟨_, rfl⟩
  obtain ⟨GZ, hGZ⟩ : ∃ z, z = w.heap.size + 2 := ⟨_, rfl⟩
  rw [← hw1, ← hGZ, ← hGK] at hat
  have hat' : RefAt w w1 c G GK GZ us K ZS := by rw [hG]; exact hat
  have hv1 : RefV w1 c us S := h.below hat'.bel
  have HAT := Lib.hid hat'
  have HV1 := Lib.hid hv1
  have HFD := Lib.hid hfd
  have HBK := Lib.hid hbk
  have HI := Lib.hid hi
  have HSZ := Lib.hid hsz
  have HONE := Lib.hid hone
  have HZL := Lib.hid hzl
  have HZI := Lib.hid hzi
  have HW1 := Lib.hid hw1
  have HG := Lib.hid hG
  have HGK := Lib.hid hGK
  have HGZ := Lib.hid hGZ
  have HBW := Lib.hid hbw
  have HH := Lib.hid h
  have HL := Lib.hid hl
  clear hat hat' hv1 hfd hbk hi hsz hone hzl hw1 hG hGK hGZ hK hbw h hl hZS hzi hW
  cases hf : fIdx S.W id with
  | some i =>
    have ef : findF S.W id = (i : Int) := by unfold findF; rw [hf]
    have eE : enterF S id r ht = S := by unfold enterF; rw [hf]
    rw [eE]
    simp only [ef] at HFD
    have di : decide ((i : Int) < 0) = false := decide_eq_false (by omega)
    clear hf ef eE
    go_enter Try.func23, Try.ntmps23
    go_upto_region 1 with fail
    change Code.wp _ _ _ _ (((w.alloc (.cells us.toArray 30)).alloc (.cells (K.map (Value.int .u8)).toArray 39)).alloc (.cells ZS.toArray 30))
    rw [← HW1.out, show w.heap.size + 1 + 1 = GZ from HGZ.out.symm, show w.heap.size + 1 = GK from HGK.out.symm, show w.heap.size = G from HG.out.symm]
    clear HW1 HG HGK HGZ
    try dsimp only [Act.put]
    go_wp2_with (first
      | (refine wpList_load_vrow rfl 30 _ rfl rfl HAT.out.row Try.underlying30 HSZ.out ?_)
      | (refine wpList_load_irow rfl 39 _ rfl rfl HAT.out.key Try.underlying39 (by rw [← List.length_map (f := Value.int .u8)]; exact HI.out) ?_)
      | fail)
    refine (HFD.out _ HV1.out).mono ?_
    rintro e w2 ⟨rfl, hb2⟩
    have HAT2 := Lib.hid (HAT.out.below hb2)
    have HV2 := Lib.hid (HV1.out.below hb2)
    clear hb2
    go_upto_region 3 with fail
    have HAT9 := HAT2
    have HV9 := HV2
    have HSZ9 := HSZ
    have HONE9 := HONE
    have HLN9 := Lib.hid (show ZS.length = us.length by rw [HZL.out, HH.out.1.len])
    go_wp2_with (first
      | (refine wpList_load_vrow rfl 30 _ rfl rfl HAT9.out.row Try.underlying30 HSZ9.out ?_)
      | (refine wpList_store_vrow rfl 30 _ _ rfl rfl rfl HAT9.out.res HSZ9.out HLN9.out HONE9.out ?_))
    refine bodyPost_ret (v := .agg us.toArray) ?_ rfl ⟨us, rfl, (refAt_end HAT9.out HV9.out).1, (refAt_end HAT9.out HV9.out).2.1⟩
    exact results_cell_row Try.results23 _ _ GZ 30 us.toArray (0, 0) _ rfl (refAt_end HAT9.out HV9.out).2.2 Try.underlying30 rfl (by rw [List.size_toArray]; exact HSZ9.out)
  | none =>
    have ef : findF S.W id = -1 := by unfold findF; rw [hf]
    have eE : enterF S id r ht = ⟨S.A, S.I, S.W ++ [⟨id, bkF r, ht⟩]⟩ := by unfold enterF; rw [hf]
    rw [eE]
    simp only [ef] at HFD
    clear hf ef eE
    obtain ⟨hcn, sl, hsl, hwt⟩ := HH.out
    have HCN := Lib.hid hcn
    have HSL := Lib.hid hsl
    obtain ⟨Aw, cw, hform⟩ := hwt.form
    clear hcn hsl hwt
    go_enter Try.func23, Try.ntmps23
    go_upto_region 1 with fail
    change Code.wp _ _ _ _ (((w.alloc (.cells us.toArray 30)).alloc (.cells (K.map (Value.int .u8)).toArray 39)).alloc (.cells ZS.toArray 30))
    rw [← HW1.out, show w.heap.size + 1 + 1 = GZ from HGZ.out.symm, show w.heap.size + 1 = GK from HGK.out.symm, show w.heap.size = G from HG.out.symm]
    clear HW1 HG HGK HGZ
    try dsimp only [Act.put]
    go_wp2_with (first
      | (refine wpList_load_vrow rfl 30 _ rfl rfl HAT.out.row Try.underlying30 HSZ.out ?_)
      | (refine wpList_load_irow rfl 39 _ rfl rfl HAT.out.key Try.underlying39 (by rw [← List.length_map (f := Value.int .u8)]; exact HI.out) ?_)
      | fail)
    refine (HFD.out _ HV1.out).mono ?_
    rintro e w2 ⟨rfl, hb2⟩
    have HAT2 := Lib.hid (HAT.out.below hb2)
    have HV2 := Lib.hid (HV1.out.below hb2)
    clear hb2
    go_upto_region 2 with fail
    have hwt2 : WtS w2 c sl S.W := by
      obtain ⟨_, sl', h1, h2⟩ := HV2.out
      rw [HSL.out] at h1
      injection h1 with h1
      rw [h1]
      exact h2
    have c312 : w2.drew.cell? ⟨G, 312, none⟩ = some sl := HAT2.out.row.cell HSL.out
    have hsrc := fun o => (show WtS (w2.drew.alloc o) c sl S.W from hwt2.drew.below ((Below.refl _ w2.drew).alloc (Nat.le_refl _) o)).source (by have := HL.out; omega)
    have hwl := hwt2.lt
    have HSRC := Lib.hid hsrc
    have OE := Lib.hid (own_empty w2.drew)
    have HE0 := Lib.hid (empty_waits w2.drew)
    have HOW := Lib.hid (fun W => one_wait c ⟨id, bkF r, ht⟩ W)
    obtain ⟨WC, hWC⟩ : ∃ WC, WC = wtC c ⟨id, bkF r, ht⟩ := ⟨_, rfl⟩
    rw [← hWC] at HOW HBW
    have HWC := Lib.hid hWC
    subst hform
    clear hwt2 hsrc hwl hWC
    obtain ⟨nw, hnw⟩ : ∃ nw, nw = S.W.length := ⟨_, rfl⟩
    obtain ⟨FL, hFL⟩ : ∃ FL, FL = S.W.flatMap (wtC c) := ⟨_, rfl⟩
    rw [← hnw] at c312
    have c312a : ∀ o, (w2.alloc o).drew.cell? ⟨G, 312, none⟩ = some (.slice Aw nw cw) := fun o => (((Below.refl _ w2.drew).alloc (Nat.le_refl _) o).cell (p := ⟨G, 312, none⟩) HAT2.out.row.lt).trans c312
    have HNW := Lib.hid hnw
    have HFL := Lib.hid hFL
    rw [← hnw, ← hFL] at HSRC
    rw [← hnw] at HSL
    clear hnw hFL
    refine wp_region_held_drew (S := (fun w' => IRow w' GK 39 .u8 K)) (by kernel_rfl) ?_ (fun hHeld => ?_)
    · exact HAT2.out.key.drew
    refine wpAnyH_take (i := 1) (oi := { dst := some 14, op := Go.Op.fieldAddr 30 (Go.Operand.tmp 4) 2, type := 0, pos := "ref.go:45", after := #[], guard := none }) (v := ?av1) rfl (by kernel_rfl) (by kernel_rfl) (by kernel_rfl) (fun _ _ _ h => h) (Or.inl ⟨by rfl, ?ay1⟩) (by assumption) ?ar1
    case ay1 => (intro w hSw; (try dsimp only at hSw); go_simp; try (with_reducible rfl))
    case ar1 =>
    try simp only [Act.put, List.setIfInBounds_toArray, List.set_cons_zero, List.set_cons_succ]
    refine wpAnyH_take (i := 4) (oi := { dst := some 17, op := Go.Op.load 39 (Go.Operand.tmp 5), type := 39, pos := "ref.go:45", after := #[], guard := none }) (v := (.agg (K.map (Value.int .u8)).toArray)) rfl (by kernel_rfl) (by kernel_rfl) (by kernel_rfl) (fun _ _ _ h => h) (yieldsIf_load_mid (by rfl) 39 (.tmp 5) rfl GK 0 rfl (K.map (Value.int .u8)) _ (fun w' h => irow_range0 h) Try.underlying39 rfl HI.out) (by assumption) ?_
    try simp only [Act.put, List.setIfInBounds_toArray, List.set_cons_zero, List.set_cons_succ]
    refine wpAnyH_take (i := 5) (oi := { dst := some 18, op := Go.Op.move (Go.Operand.tmp 2), type := 2, pos := "ref.go:45", after := #[], guard := none }) (v := ?av5) rfl (by kernel_rfl) (by kernel_rfl) (by kernel_rfl) (fun _ _ _ h => h) (Or.inl ⟨by rfl, ?ay5⟩) (by assumption) ?ar5
    case ay5 => (intro w hSw; (try dsimp only at hSw); go_simp; try (with_reducible rfl))
    case ar5 =>
    try simp only [Act.put, List.setIfInBounds_toArray, List.set_cons_zero, List.set_cons_succ]
    refine wpAnyH_take (i := 7) (oi := { dst := some 20, op := Go.Op.move (Go.Operand.tmp 3), type := 3, pos := "ref.go:45", after := #[], guard := none }) (v := ?av7) rfl (by kernel_rfl) (by kernel_rfl) (by kernel_rfl) (fun _ _ _ h => h) (Or.inl ⟨by rfl, ?ay7⟩) (by assumption) ?ar7
    case ay7 => (intro w hSw; (try dsimp only at hSw); go_simp; try (with_reducible rfl))
    case ar7 =>
    try simp only [Act.put, List.setIfInBounds_toArray, List.set_cons_zero, List.set_cons_succ]
    refine wpAnyH_ready (rs := [0, 2]) (by kernel_rfl) (by simp) ?_
    refine AllReadyH.cons (o := { dst := some 13, op := Go.Op.buildSlice 28 0 #[], type := 28, pos := "ref.go:45", after := #[], guard := none }) rfl (fun K hK => ?_) (AllReadyH.cons (o := { dst := some 15, op := Go.Op.load 28 (Go.Operand.tmp 14), type := 28, pos := "ref.go:45", after := #[{ on := 1, ground := Go.Ground.data }], guard := none }) rfl (fun K hK => ?_) (AllReadyH.nil))
    · as_aux_lemma =>
      refine wp_buildSlice _ _ _ rfl _ _ (by simp only [List.map_toArray, List.map_nil]; exact HE0.out) ?_
      have HATa := HAT2.out.drew.below ((Below.refl _ w2.drew).alloc (Nat.le_refl _) (.cells #[] 41))
      refine hK.out _ _ ?_ (fun hHeld => ?_)
      · exact HATa.key
      clear hK K
      try simp only [Act.put, List.setIfInBounds_toArray, List.set_cons_zero, List.set_cons_succ]
      refine wpAnyH_ready (rs := [2]) (by kernel_rfl) (by simp) ?_
      refine AllReadyH.cons (o := { dst := some 15, op := Go.Op.load 28 (Go.Operand.tmp 14), type := 28, pos := "ref.go:45", after := #[{ on := 1, ground := Go.Ground.data }], guard := none }) rfl (fun K hK => ?_) (AllReadyH.nil)
      go_simp
      refine hK.out _ _ ?_ (fun hHeld => ?_)
      · exact hHeld
      clear hK K
      try simp only [Act.put, List.setIfInBounds_toArray, List.set_cons_zero, List.set_cons_succ]
      refine wpAnyH_ready (rs := [3]) (by kernel_rfl) (by simp) ?_
      refine AllReadyH.cons (o := { dst := some 16, op := Go.Op.call { callee := Go.Callee.builtin Go.Builtin.append, args := #[Go.Operand.tmp 13, Go.Operand.tmp 15], argTypes := #[28, 28] }, type := 28, pos := "ref.go:45", after := #[{ on := 0, ground := Go.Ground.data }, { on := 2, ground := Go.Ground.data }], guard := none }) rfl (fun K hK => ?_) (AllReadyH.nil)
      refine op_append_wt _ _ rfl _ 0 [] rfl OE.out _ nw FL rfl (HSRC.out _) (by have := HL.out; have := HNW.out; omega) ?_
      intro v1 w3 own1 gr1 loc1
      rw [Nat.zero_add, List.nil_append] at own1
      have b3 : Below w2.drew.heap.size w2.drew w3 := ((Below.refl _ w2.drew).alloc (Nat.le_refl _) _).grown gr1 (by simp) (fun k hk => by have q : some w2.drew.heap.size = some k := hk; injection q with q; omega)
      have HAT3 := HAT2.out.drew.below b3
      have hv1 : ∀ k, v1.ownBlock = some k → w2.drew.heap.size ≤ k := fun k hk => own_from loc1 hk
      refine hK.out _ _ ?_ (fun hHeld => ?_)
      · exact HAT3.key
      clear hK K
      try simp only [Act.put, List.setIfInBounds_toArray, List.set_cons_zero, List.set_cons_succ]
      refine wpAnyH_ready (rs := [6]) (by kernel_rfl) (by simp) ?_
      refine AllReadyH.cons (o := { dst := some 19, op := Go.Op.call { callee := Go.Callee.value (Go.Operand.func 32), args := #[Go.Operand.tmp 18], argTypes := #[2] }, type := 3, pos := "ref.go:45", after := #[{ on := 5, ground := Go.Ground.data }, { on := 3, ground := Go.Ground.chain }], guard := none }) rfl (fun K hK => ?_) (AllReadyH.nil)
      go_simp
      refine (HBK.out _).mono ?_
      rintro e w4 ⟨rfl, rfl⟩
      refine hK.out _ _ ?_ (fun hHeld => ?_)
      · exact HAT3.key
      clear hK K
      try simp only [Act.put, List.setIfInBounds_toArray, List.set_cons_zero, List.set_cons_succ]
      refine wpAnyH_take (i := 8) (oi := { dst := some 21, op := Go.Op.build 41 #[(0, Go.Operand.tmp 17), (1, Go.Operand.tmp 19), (2, Go.Operand.tmp 20)], type := 41, pos := "ref.go:45", after := #[{ on := 4, ground := Go.Ground.data }, { on := 6, ground := Go.Ground.data }, { on := 7, ground := Go.Ground.data }], guard := none }) (v := (.agg WC.toArray)) rfl (by kernel_rfl) (by kernel_rfl) (by kernel_rfl) (fun _ _ _ h => h) (yieldsIf_build (by rfl) 41 _ rfl _ (fun W => by (simp only [List.map_toArray, List.map_cons, List.map_nil]; exact HBW.out W))) (by assumption) ?_
      try simp only [Act.put, List.setIfInBounds_toArray, List.set_cons_zero, List.set_cons_succ]
      refine wpAnyH_ready (rs := [9]) (by kernel_rfl) (by simp) ?_
      refine AllReadyH.cons (o := { dst := some 22, op := Go.Op.buildSlice 28 1 #[(0, Go.Operand.tmp 21)], type := 28, pos := "ref.go:45", after := #[{ on := 8, ground := Go.Ground.data }], guard := none }) rfl (fun K hK => ?_) (AllReadyH.nil)
      refine wp_buildSlice _ _ _ rfl _ _ (by simp only [List.map_toArray, List.map_cons, List.map_nil]; exact HOW.out _) ?_
      have HAT5 := HAT3.below ((Below.refl _ w3).alloc (Nat.le_refl _) (.cells WC.toArray 41))
      refine hK.out _ _ ?_ (fun hHeld => ?_)
      · exact HAT5.key
      clear hK K
      try simp only [Act.put, List.setIfInBounds_toArray, List.set_cons_zero, List.set_cons_succ]
      refine wpAnyH_ready (rs := [10]) (by kernel_rfl) (by simp) ?_
      refine AllReadyH.cons (o := { dst := some 23, op := Go.Op.call { callee := Go.Callee.builtin Go.Builtin.append, args := #[Go.Operand.tmp 16, Go.Operand.tmp 22], argTypes := #[28, 28] }, type := 28, pos := "ref.go:45", after := #[{ on := 3, ground := Go.Ground.data }, { on := 9, ground := Go.Ground.data }, { on := 6, ground := Go.Ground.chain }], guard := none }) rfl (fun K hK => ?_) (AllReadyH.nil)
      refine op_append_wt _ _ rfl v1 nw FL rfl (own1.alloc _) _ 1 WC rfl (.inr ⟨w3.heap.size, 0, 1, rfl, by rw [HWC.out]; rfl, fun j x hx => by rw [Nat.zero_add]; exact (cell_of_row _ _ j _ _ _ (heap_alloc_new w3 _)).trans (by simpa using hx), by rw [HWC.out]; exact wtC_one _ _⟩) (by have := HL.out; have := HNW.out; omega) ?_
      intro v2 w6 own2 gr2 loc2
      have b6 : Below w2.drew.heap.size w3 w6 := ((Below.refl _ w3).alloc b3.size _).grown gr2 (Nat.le_trans b3.size (by simp)) (fun k hk => hv1 k hk)
      have HAT6 := HAT2.out.drew.below (b3.trans b6)
      obtain ⟨A2, c2, hv2⟩ := own_form own2
      subst hv2
      have q312 : w6.cell? ⟨G, 312, none⟩ = some (.slice Aw nw cw) := HAT6.row.cell HSL.out
      have qfr := HAT6.row.free 312
      refine hK.out _ _ ?_ (fun hHeld => ?_)
      · exact HAT6.key
      clear hK K
      try simp only [Act.put, List.setIfInBounds_toArray, List.set_cons_zero, List.set_cons_succ]
      refine wpAnyH_take (i := 11) (oi := { dst := some 24, op := Go.Op.fieldAddr 30 (Go.Operand.tmp 4) 2, type := 0, pos := "ref.go:45", after := #[{ on := 0, ground := Go.Ground.phase }, { on := 1, ground := Go.Ground.phase }, { on := 2, ground := Go.Ground.phase }, { on := 3, ground := Go.Ground.phase }, { on := 4, ground := Go.Ground.phase }, { on := 5, ground := Go.Ground.phase }, { on := 6, ground := Go.Ground.phase }, { on := 7, ground := Go.Ground.phase }, { on := 8, ground := Go.Ground.phase }, { on := 9, ground := Go.Ground.phase }, { on := 10, ground := Go.Ground.phase }], guard := none }) (v := ?a_0_2_3_6_9_10v11) rfl (by kernel_rfl) (by kernel_rfl) (by kernel_rfl) (fun _ _ _ h => h) (Or.inl ⟨by rfl, ?a_0_2_3_6_9_10y11⟩) (by assumption) ?a_0_2_3_6_9_10r11
      case a_0_2_3_6_9_10y11 => (intro w hSw; (try dsimp only at hSw); go_simp; try (with_reducible rfl))
      case a_0_2_3_6_9_10r11 =>
      try simp only [Act.put, List.setIfInBounds_toArray, List.set_cons_zero, List.set_cons_succ]
      refine wpAnyH_ready (rs := [12]) (by kernel_rfl) (by simp) ?_
      refine AllReadyH.cons (o := { dst := none, op := Go.Op.store 28 (Go.Operand.tmp 24) (Go.Operand.tmp 23), type := 0, pos := "ref.go:45", after := #[{ on := 11, ground := Go.Ground.data }, { on := 10, ground := Go.Ground.data }, { on := 10, ground := Go.Ground.chain }, { on := 0, ground := Go.Ground.phase }, { on := 1, ground := Go.Ground.phase }, { on := 2, ground := Go.Ground.phase }, { on := 3, ground := Go.Ground.phase }, { on := 4, ground := Go.Ground.phase }, { on := 5, ground := Go.Ground.phase }, { on := 6, ground := Go.Ground.phase }, { on := 7, ground := Go.Ground.phase }, { on := 8, ground := Go.Ground.phase }, { on := 9, ground := Go.Ground.phase }, { on := 10, ground := Go.Ground.phase }], guard := none }) rfl (fun K hK => ?_) (AllReadyH.nil)
      have HAT7 := HAT6.set 312 (.slice A2 (nw + 1) c2)
      have HV7 := HAT6.put HCN.out (v := .slice A2 (nw + 1) c2) (W := S.W ++ [⟨id, bkF r, ht⟩]) (WtS.snoc (n := nw + 1) (by rw [← HFL.out, ← HWC.out]; exact own2) (by rw [HNW.out]))
      go_simp
      refine hK.out _ _ ?_ (fun hHeld => ?_)
      · exact HAT7.key
      clear hK K
      try simp only [Act.put]
      refine wpAnyH_done (by kernel_rfl) ?_ _
      have HSZ9 := Lib.hid HV7.size
      have HONE9 := Lib.hid HV7.one
      have HLN9 := Lib.hid (show ZS.length = (us.set 312 (.slice A2 (nw + 1) c2)).length by rw [HZL.out, HV7.1.len])
      have HAT9 := Lib.hid HAT7
      have HV9 := Lib.hid HV7
      obtain ⟨us9, hus9⟩ : ∃ u, u = us.set 312 (.slice A2 (nw + 1) c2) := ⟨_, rfl⟩
      obtain ⟨w9, hw9⟩ : ∃ u, u = w6.setCell ⟨G, 312, none⟩ (.slice A2 (nw + 1) c2) := ⟨_, rfl⟩
      change Exit.then _ _ Exit.normal _ (w6.setCell ⟨G, 312, none⟩ (.slice A2 (nw + 1) c2))
      rw [← hw9]
      rw [← hus9] at HSZ9 HONE9 HLN9
      rw [← hus9, ← hw9] at HAT9 HV9
      clear HAT7 HV7 hus9 hw9 HATa HAT3 HAT5 HAT6 own1 own2 gr1 gr2 loc1 loc2 b3 b6 q312 qfr
      go_wp2_with (first | (refine wpList_load_vrow rfl 30 _ rfl rfl HAT9.out.row Try.underlying30 HSZ9.out ?_) | (refine wpList_store_vrow rfl 30 _ _ rfl rfl rfl HAT9.out.res HSZ9.out HLN9.out HONE9.out ?_))
      refine bodyPost_ret (v := .agg us9.toArray) ?_ rfl ⟨us9, rfl, (refAt_end HAT9.out HV9.out).1, (refAt_end HAT9.out HV9.out).2.1⟩
      exact results_cell_row Try.results23 _ _ GZ 30 us9.toArray (0, 0) _ rfl (refAt_end HAT9.out HV9.out).2.2 Try.underlying30 rfl (by rw [List.size_toArray]; exact HSZ9.out)
    · as_aux_lemma =>
      go_simp
      refine hK.out _ _ ?_ (fun hHeld => ?_)
      · exact hHeld
      clear hK K
      try simp only [Act.put, List.setIfInBounds_toArray, List.set_cons_zero, List.set_cons_succ]
      refine wpAnyH_ready (rs := [0]) (by kernel_rfl) (by simp) ?_
      refine AllReadyH.cons (o := { dst := some 13, op := Go.Op.buildSlice 28 0 #[], type := 28, pos := "ref.go:45", after := #[], guard := none }) rfl (fun K hK => ?_) (AllReadyH.nil)
      refine wp_buildSlice _ _ _ rfl _ _ (by simp only [List.map_toArray, List.map_nil]; exact HE0.out) ?_
      have HATa := HAT2.out.drew.below ((Below.refl _ w2.drew).alloc (Nat.le_refl _) (.cells #[] 41))
      refine hK.out _ _ ?_ (fun hHeld => ?_)
      · exact HATa.key
      clear hK K
      try simp only [Act.put, List.setIfInBounds_toArray, List.set_cons_zero, List.set_cons_succ]
      refine wpAnyH_ready (rs := [3]) (by kernel_rfl) (by simp) ?_
      refine AllReadyH.cons (o := { dst := some 16, op := Go.Op.call { callee := Go.Callee.builtin Go.Builtin.append, args := #[Go.Operand.tmp 13, Go.Operand.tmp 15], argTypes := #[28, 28] }, type := 28, pos := "ref.go:45", after := #[{ on := 0, ground := Go.Ground.data }, { on := 2, ground := Go.Ground.data }], guard := none }) rfl (fun K hK => ?_) (AllReadyH.nil)
      refine op_append_wt _ _ rfl _ 0 [] rfl OE.out _ nw FL rfl (HSRC.out _) (by have := HL.out; have := HNW.out; omega) ?_
      intro v1 w3 own1 gr1 loc1
      rw [Nat.zero_add, List.nil_append] at own1
      have b3 : Below w2.drew.heap.size w2.drew w3 := ((Below.refl _ w2.drew).alloc (Nat.le_refl _) _).grown gr1 (by simp) (fun k hk => by have q : some w2.drew.heap.size = some k := hk; injection q with q; omega)
      have HAT3 := HAT2.out.drew.below b3
      have hv1 : ∀ k, v1.ownBlock = some k → w2.drew.heap.size ≤ k := fun k hk => own_from loc1 hk
      refine hK.out _ _ ?_ (fun hHeld => ?_)
      · exact HAT3.key
      clear hK K
      try simp only [Act.put, List.setIfInBounds_toArray, List.set_cons_zero, List.set_cons_succ]
      refine wpAnyH_ready (rs := [6]) (by kernel_rfl) (by simp) ?_
      refine AllReadyH.cons (o := { dst := some 19, op := Go.Op.call { callee := Go.Callee.value (Go.Operand.func 32), args := #[Go.Operand.tmp 18], argTypes := #[2] }, type := 3, pos := "ref.go:45", after := #[{ on := 5, ground := Go.Ground.data }, { on := 3, ground := Go.Ground.chain }], guard := none }) rfl (fun K hK => ?_) (AllReadyH.nil)
      go_simp
      refine (HBK.out _).mono ?_
      rintro e w4 ⟨rfl, rfl⟩
      refine hK.out _ _ ?_ (fun hHeld => ?_)
      · exact HAT3.key
      clear hK K
      try simp only [Act.put, List.setIfInBounds_toArray, List.set_cons_zero, List.set_cons_succ]
      refine wpAnyH_take (i := 8) (oi := { dst := some 21, op := Go.Op.build 41 #[(0, Go.Operand.tmp 17), (1, Go.Operand.tmp 19), (2, Go.Operand.tmp 20)], type := 41, pos := "ref.go:45", after := #[{ on := 4, ground := Go.Ground.data }, { on := 6, ground := Go.Ground.data }, { on := 7, ground := Go.Ground.data }], guard := none }) (v := (.agg WC.toArray)) rfl (by kernel_rfl) (by kernel_rfl) (by kernel_rfl) (fun _ _ _ h => h) (yieldsIf_build (by rfl) 41 _ rfl _ (fun W => by (simp only [List.map_toArray, List.map_cons, List.map_nil]; exact HBW.out W))) (by assumption) ?_
      try simp only [Act.put, List.setIfInBounds_toArray, List.set_cons_zero, List.set_cons_succ]
      refine wpAnyH_ready (rs := [9]) (by kernel_rfl) (by simp) ?_
      refine AllReadyH.cons (o := { dst := some 22, op := Go.Op.buildSlice 28 1 #[(0, Go.Operand.tmp 21)], type := 28, pos := "ref.go:45", after := #[{ on := 8, ground := Go.Ground.data }], guard := none }) rfl (fun K hK => ?_) (AllReadyH.nil)
      refine wp_buildSlice _ _ _ rfl _ _ (by simp only [List.map_toArray, List.map_cons, List.map_nil]; exact HOW.out _) ?_
      have HAT5 := HAT3.below ((Below.refl _ w3).alloc (Nat.le_refl _) (.cells WC.toArray 41))
      refine hK.out _ _ ?_ (fun hHeld => ?_)
      · exact HAT5.key
      clear hK K
      try simp only [Act.put, List.setIfInBounds_toArray, List.set_cons_zero, List.set_cons_succ]
      refine wpAnyH_ready (rs := [10]) (by kernel_rfl) (by simp) ?_
      refine AllReadyH.cons (o := { dst := some 23, op := Go.Op.call { callee := Go.Callee.builtin Go.Builtin.append, args := #[Go.Operand.tmp 16, Go.Operand.tmp 22], argTypes := #[28, 28] }, type := 28, pos := "ref.go:45", after := #[{ on := 3, ground := Go.Ground.data }, { on := 9, ground := Go.Ground.data }, { on := 6, ground := Go.Ground.chain }], guard := none }) rfl (fun K hK => ?_) (AllReadyH.nil)
      refine op_append_wt _ _ rfl v1 nw FL rfl (own1.alloc _) _ 1 WC rfl (.inr ⟨w3.heap.size, 0, 1, rfl, by rw [HWC.out]; rfl, fun j x hx => by rw [Nat.zero_add]; exact (cell_of_row _ _ j _ _ _ (heap_alloc_new w3 _)).trans (by simpa using hx), by rw [HWC.out]; exact wtC_one _ _⟩) (by have := HL.out; have := HNW.out; omega) ?_
      intro v2 w6 own2 gr2 loc2
      have b6 : Below w2.drew.heap.size w3 w6 := ((Below.refl _ w3).alloc b3.size _).grown gr2 (Nat.le_trans b3.size (by simp)) (fun k hk => hv1 k hk)
      have HAT6 := HAT2.out.drew.below (b3.trans b6)
      obtain ⟨A2, c2, hv2⟩ := own_form own2
      subst hv2
      have q312 : w6.cell? ⟨G, 312, none⟩ = some (.slice Aw nw cw) := HAT6.row.cell HSL.out
      have qfr := HAT6.row.free 312
      refine hK.out _ _ ?_ (fun hHeld => ?_)
      · exact HAT6.key
      clear hK K
      try simp only [Act.put, List.setIfInBounds_toArray, List.set_cons_zero, List.set_cons_succ]
      refine wpAnyH_take (i := 11) (oi := { dst := some 24, op := Go.Op.fieldAddr 30 (Go.Operand.tmp 4) 2, type := 0, pos := "ref.go:45", after := #[{ on := 0, ground := Go.Ground.phase }, { on := 1, ground := Go.Ground.phase }, { on := 2, ground := Go.Ground.phase }, { on := 3, ground := Go.Ground.phase }, { on := 4, ground := Go.Ground.phase }, { on := 5, ground := Go.Ground.phase }, { on := 6, ground := Go.Ground.phase }, { on := 7, ground := Go.Ground.phase }, { on := 8, ground := Go.Ground.phase }, { on := 9, ground := Go.Ground.phase }, { on := 10, ground := Go.Ground.phase }], guard := none }) (v := ?a_2_0_3_6_9_10v11) rfl (by kernel_rfl) (by kernel_rfl) (by kernel_rfl) (fun _ _ _ h => h) (Or.inl ⟨by rfl, ?a_2_0_3_6_9_10y11⟩) (by assumption) ?a_2_0_3_6_9_10r11
      case a_2_0_3_6_9_10y11 => (intro w hSw; (try dsimp only at hSw); go_simp; try (with_reducible rfl))
      case a_2_0_3_6_9_10r11 =>
      try simp only [Act.put, List.setIfInBounds_toArray, List.set_cons_zero, List.set_cons_succ]
      refine wpAnyH_ready (rs := [12]) (by kernel_rfl) (by simp) ?_
      refine AllReadyH.cons (o := { dst := none, op := Go.Op.store 28 (Go.Operand.tmp 24) (Go.Operand.tmp 23), type := 0, pos := "ref.go:45", after := #[{ on := 11, ground := Go.Ground.data }, { on := 10, ground := Go.Ground.data }, { on := 10, ground := Go.Ground.chain }, { on := 0, ground := Go.Ground.phase }, { on := 1, ground := Go.Ground.phase }, { on := 2, ground := Go.Ground.phase }, { on := 3, ground := Go.Ground.phase }, { on := 4, ground := Go.Ground.phase }, { on := 5, ground := Go.Ground.phase }, { on := 6, ground := Go.Ground.phase }, { on := 7, ground := Go.Ground.phase }, { on := 8, ground := Go.Ground.phase }, { on := 9, ground := Go.Ground.phase }, { on := 10, ground := Go.Ground.phase }], guard := none }) rfl (fun K hK => ?_) (AllReadyH.nil)
      have HAT7 := HAT6.set 312 (.slice A2 (nw + 1) c2)
      have HV7 := HAT6.put HCN.out (v := .slice A2 (nw + 1) c2) (W := S.W ++ [⟨id, bkF r, ht⟩]) (WtS.snoc (n := nw + 1) (by rw [← HFL.out, ← HWC.out]; exact own2) (by rw [HNW.out]))
      go_simp
      refine hK.out _ _ ?_ (fun hHeld => ?_)
      · exact HAT7.key
      clear hK K
      try simp only [Act.put]
      refine wpAnyH_done (by kernel_rfl) ?_ _
      have HSZ9 := Lib.hid HV7.size
      have HONE9 := Lib.hid HV7.one
      have HLN9 := Lib.hid (show ZS.length = (us.set 312 (.slice A2 (nw + 1) c2)).length by rw [HZL.out, HV7.1.len])
      have HAT9 := Lib.hid HAT7
      have HV9 := Lib.hid HV7
      obtain ⟨us9, hus9⟩ : ∃ u, u = us.set 312 (.slice A2 (nw + 1) c2) := ⟨_, rfl⟩
      obtain ⟨w9, hw9⟩ : ∃ u, u = w6.setCell ⟨G, 312, none⟩ (.slice A2 (nw + 1) c2) := ⟨_, rfl⟩
      change Exit.then _ _ Exit.normal _ (w6.setCell ⟨G, 312, none⟩ (.slice A2 (nw + 1) c2))
      rw [← hw9]
      rw [← hus9] at HSZ9 HONE9 HLN9
      rw [← hus9, ← hw9] at HAT9 HV9
      clear HAT7 HV7 hus9 hw9 HATa HAT3 HAT5 HAT6 own1 own2 gr1 gr2 loc1 loc2 b3 b6 q312 qfr
      go_wp2_with (first | (refine wpList_load_vrow rfl 30 _ rfl rfl HAT9.out.row Try.underlying30 HSZ9.out ?_) | (refine wpList_store_vrow rfl 30 _ _ rfl rfl rfl HAT9.out.res HSZ9.out HLN9.out HONE9.out ?_))
      refine bodyPost_ret (v := .agg us9.toArray) ?_ rfl ⟨us9, rfl, (refAt_end HAT9.out HV9.out).1, (refAt_end HAT9.out HV9.out).2.1⟩
      exact results_cell_row Try.results23 _ _ GZ 30 us9.toArray (0, 0) _ rfl (refAt_end HAT9.out HV9.out).2.2 Try.underlying30 rfl (by rw [List.size_toArray]; exact HSZ9.out)
end Go.Proofs.Ytfhpodeppmnopaa
