/-
  An act done to both books: forgetting and entering. Conditions: the act is data; a few hundred entries.
-/
import Derived.Test.YtfhpodeppmnopaaFeRest
import Derived.Test.YtfhpodeppmnopaaFeBlock
import Derived.Test.YtfhpodeppmnopaaFeWait
namespace Go.Proofs.Ytfhpodeppmnopaa
open Go.RowKit

/-- An act. -/
structure AcP where
  kd : Int
  id : UInt8
  rate : Int
  ht : Int
  ids : List UInt8
def AcP.ok (a : AcP) : Prop := (-9223372036854775808 ≤ a.rate ∧ a.rate ≤ 9223372036854775807) ∧ (-9223372036854775808 ≤ a.ht ∧ a.ht ≤ 9223372036854775807)
def actF (S : Bs) (a : AcP) : Bs := if a.kd = 1 then forgetF S a.id.toNat else if a.kd = 2 then blockF S a.ht ((a.ids.take 40).map (·.toNat)) else enterF S a.id.toNat a.rate a.ht
theorem Ok.act {n : Nat} {S : Bs} (h : Ok n S) {a : AcP} (ha : a.ok) : Ok (n + 1) (actF S a) := by
  unfold actF
  split
  · exact (h.forget _).more (by omega)
  · split
    · exact (h.block _ _).more (by omega)
    · exact h.enter _ (UInt8.toNat_lt a.id) ha.2.1 ha.2.2
/-- The cells of an act. -/
def acC (a : AcP) (b : Value) : List Value := [.int .i64 a.kd, .int .u8 (a.id.toNat : Int), .int .i64 a.rate, .int .i64 a.ht, b]
theorem VRow.apart {w : World} {d g k : Nat} {t : TypeId} {vs : List Value} {m : Option Nat} {S : Bs} (h : VRow w k t vs) (ht : t ≠ 59) (hb : BookAt w d g m S) : ¬ (k = g ∨ m = some k) := by
  rintro (rfl | rfl)
  · obtain ⟨us, hu, _⟩ := hb.1
    have h1 : w.heap[k]? = _ := hu
    have h2 : w.heap[k]? = _ := h
    rw [h1] at h2
    injection h2 with h2
    injection h2 with _ h2
    exact ht h2.symm
  · obtain ⟨es, clock, h1, _⟩ := hb.2
    have h2 : w.heap[k]? = _ := h
    rw [h1] at h2
    cases h2
/-- What doing an act leans on. -/
structure DoAt (w w0 : World) (X : Nat → Prop) (wr : World) (g : Nat) (m : Option Nat) (S S2 : Bs) (G1 G2 G3 : Nat) (us ac zs : List Value) : Prop where
  own : Owned w wr 7 g m S
  ref : RefV wr 7 us S2
  r1 : VRow wr G1 30 us
  r2 : VRow wr G2 38 ac
  r3 : VRow wr G3 30 zs
  ge : w.heap.size ≤ G3
  ne : G1 ≠ G3
  tu : Turns X w0 wr
  gw : w0.heap.size ≤ G3
section
variable {w w0 wr wr' : World} {X : Nat → Prop} {g : Nat} {m m' : Option Nat} {S S2 S' : Bs} {G1 G2 G3 : Nat} {us ac zs : List Value}
theorem DoAt.drew (h : DoAt w w0 X wr g m S S2 G1 G2 G3 us ac zs) : DoAt w w0 X wr.drew g m S S2 G1 G2 G3 us ac zs := ⟨h.own.drew, h.ref.drew, h.r1, h.r2, h.r3, h.ge, h.ne, h.tu.drew, h.gw⟩
theorem DoAt.below (h : DoAt w w0 X wr g m S S2 G1 G2 G3 us ac zs) (hb : Below wr.heap.size wr wr') : DoAt w w0 X wr' g m S S2 G1 G2 G3 us ac zs :=
  ⟨h.own.below hb, h.ref.below hb, h.r1.below hb h.r1.lt, h.r2.below hb h.r2.lt, h.r3.below hb h.r3.lt, h.ge, h.ne, h.tu.trans (Turns.of_below (S := fun _ => False) hb) (fun _ _ q => q.elim), h.gw⟩
theorem DoAt.turned (h : DoAt w w0 X wr g m S S2 G1 G2 G3 us ac zs) (ho : Owned w wr' 7 g m' S') (ht : Turns (fun i => i = g ∨ m = some i) wr wr') (hX : ∀ i, i = g ∨ m = some i → X i) : DoAt w w0 X wr' g m' S' S2 G1 G2 G3 us ac zs :=
  ⟨ho, h.ref.turns ht (fun sl hsl k hk => by
    obtain ⟨_, sl', hsl', hwt⟩ := h.ref
    rw [hsl] at hsl'
    injection hsl' with hsl'
    subst hsl'
    exact hwt.apart h.own.1 k hk), h.r1.turns ht (h.r1.apart (by decide) h.own.1), h.r2.turns ht (h.r2.apart (by decide) h.own.1), h.r3.turns ht (h.r3.apart (by decide) h.own.1), h.ge, h.ne, h.tu.trans ht (fun i _ q => hX i q), h.gw⟩
/-- The result is stored. -/
theorem DoAt.stored {us' : List Value} (h : DoAt w w0 X wr g m S S2 G1 G2 G3 us ac zs) (hr : RefV wr 7 us' S') : Owned w (wr.setRow G3 us'.toArray) 7 g m S ∧ RefV (wr.setRow G3 us'.toArray) 7 us' S' ∧ VRow (wr.setRow G3 us'.toArray) G3 30 us' ∧ Turns X w0 (wr.setRow G3 us'.toArray) := by
  have t : Turns (fun i => i = G3) wr (wr.setRow G3 us'.toArray) := Turns.setRow (S := fun i => i = G3) (Turns.refl _ wr) (fun _ => rfl) _
  have ha := h.r3.apart (by decide) h.own.1
  exact ⟨⟨h.own.1.turns t (fun q => ha (.inl q.symm)) (fun b hb q => ha (.inr (by rw [hb, q]))), below_setRow h.own.2.1 h.ge _, h.own.2.2⟩, BlkAt.turned hr h.r3 t, h.r3.setRow us', h.tu.setRow (fun q => by have := h.gw; omega) _⟩
theorem DoAt.kept (h : DoAt w w0 X wr g m S S2 G1 G2 G3 us ac zs) (vs : Array Value) : VRow (wr.setRow G3 vs) G1 30 us ∧ VRow (wr.setRow G3 vs) G2 38 ac := by
  have t : Turns (fun i => i = G3) wr (wr.setRow G3 vs) := Turns.setRow (S := fun i => i = G3) (Turns.refl _ wr) (fun _ => rfl) _
  refine ⟨h.r1.turns t h.ne, h.r2.turns t (fun q => ?_)⟩
  have h1 : wr.heap[G2]? = _ := h.r2
  have h2 : wr.heap[G3]? = _ := h.r3
  rw [q, h2] at h1
  injection h1 with h1
  injection h1 with _ h1
  exact absurd h1 (by decide)
end
theorem doAt_start {w wr : World} {g : Nat} {m : Option Nat} {S : Bs} {us : List Value} (ac zs : List Value) (ho : Owned w wr 7 g m S) (hr : RefV wr 7 us S) :
    DoAt w wr (fun i => i = g ∨ m = some i) (((wr.alloc (.cells us.toArray 30)).alloc (.cells ac.toArray 38)).alloc (.cells zs.toArray 30)) g m S S wr.heap.size (wr.heap.size + 1) (wr.heap.size + 2) us ac zs := by
  have r1 := VRow.new wr 30 us
  have r2 := VRow.new (wr.alloc (.cells us.toArray 30)) 38 ac
  have r3 := VRow.new ((wr.alloc (.cells us.toArray 30)).alloc (.cells ac.toArray 38)) 30 zs
  rw [World.size_alloc] at r2
  rw [World.size_alloc, World.size_alloc] at r3
  have b : Below wr.heap.size wr (((wr.alloc (.cells us.toArray 30)).alloc (.cells ac.toArray 38)).alloc (.cells zs.toArray 30)) := (((Below.refl _ wr).alloc (Nat.le_refl _) _).alloc (by simp) _).alloc (by simp; omega) _
  exact ⟨ho.below b, hr.below b, vrow_alloc (vrow_alloc r1 _) _, vrow_alloc r2 _, r3, by have := ho.2.1.size; omega, by omega, Turns.of_below b, by omega⟩
/-- What doing an act leaves. -/
def DoOut (w wr : World) (g : Nat) (m : Option Nat) (S : Bs) (e : Ending) (w' : World) : Prop := ∃ us' m', e = .returned (.agg us'.toArray) ∧ Owned w w' 7 g m' S ∧ RefV w' 7 us' S ∧ Turns (fun i => i = g ∨ m = some i) wr w'
/-- .. and a map that is made is new. -/
def DoOut2 (w wr : World) (g : Nat) (m : Option Nat) (S : Bs) (e : Ending) (w' : World) : Prop := ∃ us' m', e = .returned (.agg us'.toArray) ∧ Owned w w' 7 g m' S ∧ RefV w' 7 us' S ∧ Turns (fun i => i = g ∨ m = some i) wr w' ∧ (m' = m ∨ ∀ b, m' = some b → wr.heap.size ≤ b)
theorem Owned.entered2 {w w1 w2 : World} {c g : Nat} {m : Option Nat} {S S' : Bs} (h : Owned w w1 c g m S) (he : Entered w1 w2 c g m S') : ∃ m', Owned w w2 c g m' S' ∧ (m' = m ∨ ∀ b, m' = some b → w1.heap.size ≤ b) := by
  obtain ⟨m', hb, ht, hm⟩ := he
  refine ⟨m', ⟨hb, below_turns h.2.1 ht (fun i hi => ?_), h.2.2.1, fun b hb => ?_⟩, ?_⟩
  · rcases hi with rfl | hi
    · exact h.2.2.1
    · exact h.2.2.2 i hi
  · rcases hm with rfl | ⟨_, b', hb', hl⟩
    · exact h.2.2.2 b hb
    · rw [hb'] at hb
      injection hb with hb
      have := h.2.1.size
      omega
  · rcases hm with rfl | ⟨_, b', hb', hl⟩
    · exact .inl rfl
    · exact .inr (fun b q => by rw [hb'] at q; injection q with q; omega)

/-! Names in a row of the call's own -/
def nmC (id : Nat) : List Value := (nmI 7 id).map (Value.int .u8)
theorem nmC_length (id : Nat) : (nmC id).length = 32 := rfl
theorem own_apart {w : World} {d g : Nat} {base : Nat} {e : TypeId} {sz n : Nat} {v : Value} {xs : List Value} {m : Option Nat} {S : Bs} (h : w.ownsRow base e sz v n xs) (he : e ≠ 59) (hb : BookAt w d g m S) : ∀ k, v.ownBlock = some k → ¬ (k = g ∨ m = some k) := by
  intro k hk
  rcases h.2 with ⟨rfl, _⟩ | ⟨g', cap, cur, rfl, _, hg, _⟩
  · simp [Value.ownBlock] at hk
  · have hk' : g' = k := by simpa [Value.ownBlock] using hk
    subst hk'
    rintro (rfl | rfl)
    · obtain ⟨us, hu, _⟩ := hb.1
      have h1 : w.heap[g']? = _ := hu
      rw [hg] at h1
      injection h1 with h1
      injection h1 with _ h1
      exact he h1
    · obtain ⟨es, clock, h1, _⟩ := hb.2
      rw [hg] at h1
      cases h1
theorem own_two {w : World} {b1 b2 : Nat} {e1 e2 : TypeId} {s1 s2 n1 n2 : Nat} {v1 v2 : Value} {x1 x2 : List Value} (h1 : w.ownsRow b1 e1 s1 v1 n1 x1) (h2 : w.ownsRow b2 e2 s2 v2 n2 x2) (he : e1 ≠ e2) : ∀ k, v1.ownBlock = some k → v2.ownBlock ≠ some k := by
  intro k hk hk2
  rcases h1.2 with ⟨rfl, _⟩ | ⟨g', cap, cur, rfl, _, hg, _⟩
  · simp [Value.ownBlock] at hk
  · have hk' : g' = k := by simpa [Value.ownBlock] using hk
    subst hk'
    rcases h2.2 with ⟨rfl, _⟩ | ⟨g'', cap2, cur2, rfl, _, hg2, _⟩
    · simp [Value.ownBlock] at hk2
    · have hk2' : g'' = g' := by simpa [Value.ownBlock] using hk2
      subst hk2'
      rw [hg] at hg2
      injection hg2 with hg2
      injection hg2 with _ hg2
      exact he hg2
theorem own_ge {w : World} {base : Nat} {e : TypeId} {sz n : Nat} {v : Value} {xs : List Value} (h : w.ownsRow base e sz v n xs) : ∀ k, v.ownBlock = some k → base ≤ k ∧ k < w.heap.size := by
  intro k hk
  rcases h.2 with ⟨rfl, _⟩ | ⟨g', cap, cur, rfl, hb, hg, _⟩
  · simp [Value.ownBlock] at hk
  · have hk' : g' = k := by simpa [Value.ownBlock] using hk
    subst hk'
    exact ⟨hb, (Array.getElem?_eq_some_iff.1 hg).1⟩
theorem nmS_own {w : World} {base : Nat} {e : TypeId} {v : Value} {L : List Nat} {X : Nat → Prop} (h : w.ownsRow base e 32 v L.length (L.flatMap nmC)) (hX : ∀ k, v.ownBlock = some k → ¬ X k) : NmS w 7 v L X := by
  rcases id h.2 with ⟨hv, h0⟩ | ⟨g', cap, cur, hv, hb, hg, hnc, hcm, _⟩
  · exact ⟨none, 0, by rw [hv, h0], by omega, by omega, fun hne => absurd (List.eq_nil_of_length_eq_zero h0) hne⟩
  · refine ⟨some ⟨g', 0, none⟩, cap, hv, hnc, by unfold maxLen at hcm; exact hcm, fun _ => ⟨g', 0, rfl, (Array.getElem?_eq_some_iff.1 hg).1, hX g' (by rw [hv]; rfl), fun i id hi j x hx => ?_⟩⟩
    have h1 := World.ownsRow.cells (g := g') h (by rw [hv]; rfl) (i * 32 + j) x (flat_at nmC 32 nmC_length L i id hi j x hx)
    have hadd : (⟨g', 0, none⟩ : Addr).add (i * 32 + j) = ⟨g', 0 + (i * 32 + j), none⟩ := by unfold Addr.add; split <;> simp_all
    rw [hadd, ← Nat.add_assoc] at h1
    exact h1
theorem op_append_row {w : World} {o : Oper} {a : Act} {K : Act → World → Prop} {Q : Exit → Act → World → Prop} (t e : TypeId) (hinfo : (Try.prog.info? e).map (fun i => (i.zero.map (fun z => z.cells.size), i.size, i.bytes)) = some (some 32, 32, 32)) (htl : Try.prog.underlying t = some (.slice e)) (s x : Operand)
    (ho : o.op = .call { callee := .builtin .append, args := #[s, x], argTypes := #[t, t] })
    (base : Nat) (hbase : base ≤ w.heap.size) (v : Value) (n : Nat) (xs : List Value) (hs : a.eval s = v) (hown : w.ownsRow base e 32 v n xs) (g : Nat) (news : List Value) (hx : a.eval x = .slice (some ⟨g, 0, none⟩) 1 1)
    (hl : news.length = 32) (hc : ∀ j x, news[j]? = some x → w.cell? ⟨g, j, none⟩ = some x) (h1 : ∀ x ∈ news, x.oneCell' = true) (hn : n + 1 ≤ 1000000)
    (h : ∀ v' w', w'.ownsRow base e 32 v' (n + 1) (xs ++ news) → w.grownBy w' v.ownBlock → K (a.put o.dst v') w') :
    o.wp Try.prog a w K Q := by
  cases hi : Try.prog.info? e with
  | none => rw [hi] at hinfo; cases hinfo
  | some i =>
    rw [hi] at hinfo
    simp only [Option.map_some, Option.some.injEq, Prod.mk.injEq] at hinfo
    obtain ⟨hz, hsz, hby⟩ := hinfo
    cases hzv : i.zero with
    | none => rw [hzv] at hz; cases hz
    | some z =>
      rw [hzv] at hz
      have hz' : z.cells.size = 32 := by simpa using hz
      obtain ⟨v', w', hrun, h2, h3, _, h5⟩ := run_append_own_at (P := Try.prog) w base t o.type e i z 32 32 htl hi hzv hsz hby hz' (by decide) v n xs hown ⟨g, 0, none⟩ 1 1 news (by rw [hl])
        (fun j x hx => by rw [Addr.add_mid, Nat.zero_add]; exact hc j x hx) h1 (by unfold maxLen; omega) (by omega) hbase
      unfold Oper.wp execOp
      simp only [ho, resolve, invoke, builtin, Sem.run_bind, Sem.run_pure, Result.andThen_ok, List.map_toArray, List.map_cons, List.map_nil, hs, hx, hrun]
      exact h v' w' h2 h3
theorem info_hash32 : (Try.prog.info? 45).map (fun i => (i.zero.map (fun z => z.cells.size), i.size, i.bytes)) = some (some 32, 32, 32) := by kernel_rfl
theorem info_raw32 : (Try.prog.info? 39).map (fun i => (i.zero.map (fun z => z.cells.size), i.size, i.bytes)) = some (some 32, 32, 32) := by kernel_rfl
/-- The two lists of names behind k rounds. -/
structure LsAt (w1 wr : World) (L : List Nat) (v7 v8 : Value) : Prop where
  bel : Below w1.heap.size w1 wr
  o7 : wr.ownsRow w1.heap.size 45 32 v7 L.length (L.flatMap nmC)
  o8 : wr.ownsRow w1.heap.size 39 32 v8 L.length (L.flatMap nmC)
def LsRel (w1 : World) (ids : List UInt8) (s v7 v8 : Value) (wr : World) : Prop := ∃ k : Nat, k ≤ ids.length ∧ k ≤ 40 ∧ s = .int .i64 (k : Int) ∧ LsAt w1 wr ((ids.take k).map (·.toNat)) v7 v8

set_option maxRecDepth 100000 in
set_option maxHeartbeats 6400000 in
theorem do_any2 (g n : Nat) (m : Option Nat) (us : List Value) (S : Bs) (a : AcP) (b : Value) (w wr : World) (ho : Owned w wr 7 g m S) (hr : RefV wr 7 us S) (hS : Ok n S) (hn : n ≤ 500) (ha : a.ok) (hb : Byt w w.heap.size b a.ids) :
    Calls Try.prog 8 #[.pointer (some ⟨g, 0, none⟩), .agg us.toArray, .agg (acC a b).toArray] wr (DoOut2 w wr g m (actF S a)) := by
  have hzr := zero_ref
  have hzl := zRef_len
  have hsz := hr.size
  have hat := doAt_start (acC a b) zRef ho hr
  obtain ⟨ZS, hZS⟩ : ∃ ZS, ZS = zRef := ⟨_, rfl⟩
  rw [← hZS] at hat hzl
  rw [← hZS] at hzr
  obtain ⟨AC, hAC⟩ : ∃ AC, AC = acC a b := ⟨_, rfl⟩
  rw [← hAC] at hat ⊢
  have k0 : AC[0]? = some (.int .i64 a.kd) := by rw [hAC]; rfl
  have k1 : AC[1]? = some (.int .u8 (a.id.toNat : Int)) := by rw [hAC]; rfl
  have k2 : AC[2]? = some (.int .i64 a.rate) := by rw [hAC]; rfl
  have k3 : AC[3]? = some (.int .i64 a.ht) := by rw [hAC]; rfl
  have k4 : AC[4]? = some b := by rw [hAC]; rfl
  obtain ⟨w1, hw1⟩ : ∃ z, z = (((wr.alloc (.cells us.toArray 30)).alloc (.cells AC.toArray 38)).alloc (.cells ZS.toArray 30)) := ⟨_, rfl⟩
  obtain ⟨G1, hG1⟩ : ∃ z, z = wr.heap.size := ⟨_, rfl⟩
  obtain ⟨G2, hG2⟩ : ∃ z, z = wr.heap.size + 1 := ⟨_, rfl⟩
  obtain ⟨G3, hG3⟩ : ∃ z, z = wr.heap.size + 2 := ⟨_, rfl⟩
  rw [← hw1, ← hG3, ← hG2, ← hG1] at hat
  have cid := UInt8.toNat_lt a.id
  obtain ⟨id, hid⟩ : ∃ id, id = a.id.toNat := ⟨_, rfl⟩
  rw [← hid] at k1 cid
  have hnm := fun W => name_any id W
  have HK := Lib.hid (show ∃ K, K = nmI 7 id from ⟨_, rfl⟩)
  unfold nmV at hnm
  obtain ⟨K, hK⟩ := HK.out
  have hi32 := size_raw (nmI 7 id) rfl
  rw [← hK] at hi32
  simp only [← hK] at hnm
  have HNM := Lib.hid hnm
  have HAT := Lib.hid hat
  have HK0 := Lib.hid k0
  have HK1 := Lib.hid k1
  have HK2 := Lib.hid k2
  have HK3 := Lib.hid k3
  have HK4 := Lib.hid k4
  have HSZ := Lib.hid hsz
  have HS := Lib.hid hS
  have HZL := Lib.hid hzl
  have HW1 := Lib.hid hw1
  have HG1 := Lib.hid hG1
  have HG2 := Lib.hid hG2
  have HG3 := Lib.hid hG3
  have HID := Lib.hid hid
  have HKK := Lib.hid hK
  have HB := Lib.hid hb
  have HA := Lib.hid ha
  have HWI := Lib.hid (show Wids S.W from fun e he => (hS.bk e he).2.1)
  clear hat k0 k1 k2 k3 k4 hsz hS hzl hw1 hG1 hG2 hG3 hid hK hb ha hAC hZS ho hr hnm HK hi32
  by_cases hk1 : a.kd = 1
  · have d1 : (a.kd == 1) = true := by simp [hk1]
    have d1' : decide (a.kd = 1) = true := decide_eq_true hk1
    have eF : actF S a = forgetF S id := by unfold actF; rw [if_pos hk1, HID.out]
    rw [eF]
    have hfg := fun W m (h : BookAt W 7 g m S) => forget_any 7 g id m S W (.inl rfl) cid h HWI.out HS.out.nd
    have hrf := fun W us (h : RefV W 7 us S) => rforget_any 7 id us S W (by omega) cid h HWI.out (by have := HS.out.len; omega)
    unfold nmV at hfg hrf
    rw [← HKK.out] at hfg hrf
    have HFG := Lib.hid hfg
    have HRF := Lib.hid hrf
    clear eF hk1 hfg hrf
    go_enter Try.func8, Try.ntmps8
    go_upto_region 1 with fail
    change Code.wp _ _ _ _ (((wr.alloc (.cells us.toArray 30)).alloc (.cells AC.toArray 38)).alloc (.cells ZS.toArray 30))
    rw [← HW1.out, show wr.heap.size + 1 + 1 = G3 from HG3.out.symm, show wr.heap.size + 1 = G2 from HG2.out.symm, show wr.heap.size = G1 from HG1.out.symm]
    clear HW1 HG1 HG2 HG3
    try dsimp only [Act.put]
    have q0 : w1.cell? ⟨G2, 0, none⟩ = some (.int .i64 a.kd) := HAT.out.r2.cell HK0.out
    have q1 : w1.cell? ⟨G2, 1, none⟩ = some (.int .u8 (id : Int)) := HAT.out.r2.cell HK1.out
    go_wp2_with fail
    refine (HNM.out _).mono ?_
    rintro e2 w2 ⟨rfl, hb2⟩
    have A2 := HAT.out.below hb2
    go_wp2_with fail
    refine (HFG.out _ _ A2.own.1).mono ?_
    rintro e3 w3 ⟨rfl, hb3, ht3⟩
    have A3 := Lib.hid (A2.turned (A2.own.turned hb3 (ht3.mono (fun _ _ q => .inr q))) (ht3.mono (fun _ _ q => .inr q)) (fun _ q => q))
    have q3 : w3.drew.cell? ⟨G2, 1, none⟩ = some (.int .u8 (id : Int)) := A3.out.r2.cell HK1.out
    clear hb2 hb3 ht3 A2 q0 q1
    go_wp2_with fail
    refine wp_region_held_drew (S := (fun w' => VRow w' G1 30 us ∧ w'.cell? ⟨G2, 1, none⟩ = some (.int .u8 (id : Int)))) (by kernel_rfl) ?_ (fun hHeld => ?_)
    · exact ⟨A3.out.r1, q3⟩
    refine wpAnyH_take (i := 0) (oi := { dst := some 19, op := Go.Op.load 30 (Go.Operand.tmp 4), type := 30, pos := "law.go:41", after := #[], guard := none }) (v := (.agg us.toArray)) rfl (by kernel_rfl) (by kernel_rfl) (by kernel_rfl) (fun _ _ _ h => h) (yieldsIf_load_mid (by rfl) 30 (.tmp 4) rfl G1 0 rfl us _ (fun w' h => vrow_range0 h.1) Try.underlying30 rfl HSZ.out) (by assumption) ?_
    try simp only [Act.put, List.setIfInBounds_toArray, List.set_cons_zero, List.set_cons_succ]
    refine wpAnyH_take (i := 1) (oi := { dst := some 20, op := Go.Op.fieldAddr 38 (Go.Operand.tmp 5) 1, type := 0, pos := "law.go:41", after := #[], guard := none }) (v := ?av1) rfl (by kernel_rfl) (by kernel_rfl) (by kernel_rfl) (fun _ _ _ h => h) (Or.inl ⟨by rfl, ?ay1⟩) (by assumption) ?ar1
    case ay1 => (intro w hSw; (try dsimp only at hSw); go_simp; try (with_reducible rfl))
    case ar1 =>
    try simp only [Act.put, List.setIfInBounds_toArray, List.set_cons_zero, List.set_cons_succ]
    refine wpAnyH_take (i := 2) (oi := { dst := some 21, op := Go.Op.load 5 (Go.Operand.tmp 20), type := 5, pos := "law.go:41", after := #[{ on := 1, ground := Go.Ground.data }], guard := none }) (v := (.int .u8 (id : Int))) rfl (by kernel_rfl) (by kernel_rfl) (by kernel_rfl) (fun _ _ _ h => h) (Or.inl ⟨by rfl, ?ay2⟩) (by assumption) ?ar2
    case ay2 => (intro w hSw; (try dsimp only at hSw); go_simp; try (simp [hSw.2]))
    case ar2 =>
    try simp only [Act.put, List.setIfInBounds_toArray, List.set_cons_zero, List.set_cons_succ]
    refine wpAnyH_ready (rs := [3]) (by kernel_rfl) (by simp) ?_
    refine AllReadyH.cons (o := { dst := some 22, op := Go.Op.call { callee := Go.Callee.value (Go.Operand.func 12), args := #[Go.Operand.tmp 21], argTypes := #[5] }, type := 45, pos := "law.go:41", after := #[{ on := 2, ground := Go.Ground.data }], guard := none }) rfl (fun K hK => ?_) (AllReadyH.nil)
    go_simp
    refine (HNM.out _).mono ?_
    rintro e4 w4 ⟨rfl, hb4⟩
    have A4 := Lib.hid (A3.out.drew.below hb4)
    clear hb4
    refine hK.out _ _ ?_ (fun hHeld => ?_)
    · exact ⟨A4.out.r1, A4.out.r2.cell HK1.out⟩
    clear hK K
    try simp only [Act.put, List.setIfInBounds_toArray, List.set_cons_zero, List.set_cons_succ]
    refine wpAnyH_ready (rs := [4]) (by kernel_rfl) (by simp) ?_
    refine AllReadyH.cons (o := { dst := some 23, op := Go.Op.call { callee := Go.Callee.value (Go.Operand.func 21), args := #[Go.Operand.tmp 19, Go.Operand.tmp 22], argTypes := #[30, 39] }, type := 30, pos := "law.go:41", after := #[{ on := 0, ground := Go.Ground.data }, { on := 3, ground := Go.Ground.data }, { on := 3, ground := Go.Ground.chain }], guard := none }) rfl (fun K hK => ?_) (AllReadyH.nil)
    go_simp
    refine (HRF.out _ _ A4.out.ref).mono ?_
    rintro e5 w5 ⟨us5, rfl, hr5, hb5⟩
    have A5 := Lib.hid (A4.out.below hb5)
    have R5 := Lib.hid hr5
    have L5 := Lib.hid (show ZS.length = us5.length by rw [HZL.out, R5.out.1.len])
    clear hb5 hr5
    refine hK.out _ _ ?_ (fun hHeld => ?_)
    · exact ⟨A5.out.r1, A5.out.r2.cell HK1.out⟩
    clear hK K
    try simp only [Act.put, List.setIfInBounds_toArray, List.set_cons_zero, List.set_cons_succ]
    refine wpAnyH_ready (rs := [5]) (by kernel_rfl) (by simp) ?_
    refine AllReadyH.cons (o := { dst := none, op := Go.Op.store 30 (Go.Operand.tmp 6) (Go.Operand.tmp 23), type := 0, pos := "law.go:41", after := #[{ on := 4, ground := Go.Ground.data }, { on := 4, ground := Go.Ground.chain }, { on := 0, ground := Go.Ground.phase }, { on := 1, ground := Go.Ground.phase }, { on := 2, ground := Go.Ground.phase }, { on := 3, ground := Go.Ground.phase }, { on := 4, ground := Go.Ground.phase }], guard := none }) rfl (fun K hK => ?_) (AllReadyH.nil)
    refine wp_store_vrow 30 (.tmp 6) (.tmp 23) rfl rfl rfl A5.out.r3 R5.out.size L5.out R5.out.one ?_
    refine hK.out _ _ ?_ (fun hHeld => ?_)
    · exact ⟨(A5.out.kept _).1, (A5.out.kept _).2.cell HK1.out⟩
    clear hK K
    try simp only [Act.put]
    refine wpAnyH_done (by kernel_rfl) ?_ _
    go_wp2_with fail
    refine bodyPost_ret (v := .agg us5.toArray) ?_ rfl ⟨us5, _, rfl, (A5.out.stored R5.out).1, (A5.out.stored R5.out).2.1, (A5.out.stored R5.out).2.2.2, .inl rfl⟩
    exact results_cell_row Try.results8 _ _ G3 30 us5.toArray (0, 0) _ rfl (A5.out.stored R5.out).2.2.1 Try.underlying30 rfl (by rw [List.size_toArray]; exact R5.out.size)
  · have d1 : (a.kd == 1) = false := by simp [hk1]
    have d1' : decide (a.kd = 1) = false := decide_eq_false hk1
    by_cases hk2 : a.kd = 2
    · have d2 : (a.kd == 2) = true := by simp [hk2]
      have d2' : decide (a.kd = 2) = true := decide_eq_true hk2
      have eF : actF S a = blockF S a.ht ((a.ids.take 40).map (·.toNat)) := by unfold actF; rw [if_neg hk1, if_pos hk2]
      obtain ⟨LL, hLL⟩ : ∃ LL, LL = (a.ids.take 40).map (·.toNat) := ⟨_, rfl⟩
      rw [eF, ← hLL]
      have HLL := Lib.hid hLL
      clear eF hk1 hk2 hLL
      go_enter Try.func8, Try.ntmps8
      go_upto_region 1 with fail
      change Code.wp _ _ _ _ (((wr.alloc (.cells us.toArray 30)).alloc (.cells AC.toArray 38)).alloc (.cells ZS.toArray 30))
      rw [← HW1.out, show wr.heap.size + 1 + 1 = G3 from HG3.out.symm, show wr.heap.size + 1 = G2 from HG2.out.symm, show wr.heap.size = G1 from HG1.out.symm]
      clear HW1 HG1 HG2 HG3
      try dsimp only [Act.put]
      have q0 : w1.cell? ⟨G2, 0, none⟩ = some (.int .i64 a.kd) := HAT.out.r2.cell HK0.out
      obtain ⟨Ab, cb, hbf⟩ := HB.out.form
      have hbcap : a.ids.length ≤ cb ∧ cb ≤ 9223372036854775807 := by
        have q := HB.out
        rw [hbf] at q
        exact q.cap
      have HCAP := Lib.hid hbcap
      subst hbf
      clear hbcap
      go_wp2_with fail
      clear q0
      go_loopw [9, 7, 8] (fun s v7 v8 wq => LsRel w1 a.ids s v7 v8 wq) (fun s _ _ _ => 40 - (intOf s).toNat)
      case atStart => exact ⟨0, Nat.zero_le _, by omega, rfl, Below.refl _ _, World.ownsRow_nil _ _ _ _, World.ownsRow_nil _ _ _ _⟩
      case round =>
        obtain ⟨k, hk, hk40, rfl, hls⟩ := hrel
        have hatr := HAT.out.below hls.bel
        have q4 : wr.cell? ⟨G2, 4, none⟩ = some (.slice Ab a.ids.length cb) := hatr.r2.cell HK4.out
        by_cases hlt : k < a.ids.length ∧ k < 40
        · as_aux_lemma =>
          obtain ⟨hl1, hl2⟩ := hlt
          have dk1 : decide ((k : Int) < (a.ids.length : Int)) = true := decide_eq_true (by omega)
          have dk2 : decide ((k : Int) < 40) = true := decide_eq_true (by omega)
          obtain ⟨A', c', e1, _, _, _, hcell⟩ := HB.out
          injection e1 with e1 e1n e1c
          subst e1 e1c
          obtain ⟨bb, ob, rfl, hbb, hbc⟩ := hcell (by rintro hn; rw [hn] at hl1; simp at hl1)
          obtain ⟨u, hu⟩ : ∃ u, a.ids[k]? = some u := ⟨_, List.getElem?_eq_getElem hl1⟩
          have hcu := hbc k u hu
          have hcu' : w.cell? ⟨bb, ob + k, none⟩ = some (.int .u8 (u.toNat : Int)) := hcu
          have hcall : ∀ W, Below w1.heap.size w1 W → W.cell? ⟨bb, ob + k, none⟩ = some (.int .u8 (u.toNat : Int)) := fun W hW => (hW.cell (p := ⟨bb, _, none⟩) (Nat.lt_of_lt_of_le hbb HAT.out.own.2.1.size)).trans ((HAT.out.own.2.1.cell (p := ⟨bb, _, none⟩) hbb).trans hcu')
          have hq4 : ∀ W, Below w1.heap.size w1 W → W.cell? ⟨G2, 4, none⟩ = some (.slice (some ⟨bb, ob, none⟩) a.ids.length cb) := fun W hW => (HAT.out.r2.below hW HAT.out.r2.lt).cell HK4.out
          have htk : (a.ids.take (k + 1)).map (·.toNat) = (a.ids.take k).map (·.toNat) ++ [u.toNat] := by rw [List.take_add_one, hu, List.map_append]; rfl
          have hlk : ((a.ids.take k).map (·.toNat)).length ≤ 40 := by rw [List.length_map, List.length_take]; omega
          obtain ⟨un, hun⟩ : ∃ un, un = u.toNat := ⟨_, rfl⟩
          rw [← hun] at htk
          simp only [← hun] at hcall
          obtain ⟨L, hL⟩ : ∃ L, L = (a.ids.take k).map (·.toNat) := ⟨_, rfl⟩
          rw [← hL] at hls htk hlk
          have hnm2 := fun W => name_any un W
          have hon := fun W => one_name 7 un W
          have hor := fun W => one_raw 7 un W
          unfold nmV at hnm2
          obtain ⟨KU, hKU⟩ : ∃ KU, KU = nmI 7 un := ⟨_, rfl⟩
          have hnc : nmC un = KU.map (Value.int .u8) := by rw [hKU]; rfl
          simp only [← hKU] at hnm2 hon hor
          have HNM2 := Lib.hid hnm2
          have HON := Lib.hid hon
          have HOR := Lib.hid hor
          have HCALL := Lib.hid hcall
          have HQ4 := Lib.hid hq4
          have HLS := Lib.hid hls
          have HTK := Lib.hid htk
          have HLK := Lib.hid hlk
          have HNC := Lib.hid hnc
          have HKL := Lib.hid (show (KU.map (Value.int .u8)).length = 32 by rw [← hnc]; exact nmC_length un)
          have HK1' := Lib.hid (show ∀ x ∈ KU.map (Value.int .u8), x.oneCell' = true from fun x hx => by obtain ⟨z, _, rfl⟩ := List.mem_map.1 hx; rfl)
          have HFL := Lib.hid (show ∀ M, M = L ++ [un] → M.flatMap nmC = L.flatMap nmC ++ KU.map (Value.int .u8) from fun M hM => by rw [hM, List.flatMap_append, ← hnc]; simp)
          have qq4 := hq4 _ hls.bel.drew
          have qqu := hcall _ hls.bel.drew
          have hkcb : k < cb := by have := HCAP.out; omega
          clear hatr hnm2 hon hor hcall hq4 hls htk hlk hnc hL hKU hun hu hcu hcu' hbc hcell e1n
          go_wp2_with fail
          refine wp_region_held_drew (S := (fun w' => w'.cell? ⟨G2, 4, none⟩ = some (.slice (some ⟨bb, ob, none⟩) a.ids.length cb) ∧ w'.cell? ⟨bb, ob + k, none⟩ = some (.int .u8 (un : Int)))) (by kernel_rfl) ?_ (fun hHeld => ?_)
          · exact ⟨qq4, qqu⟩
          refine wpAnyH_take (i := 0) (oi := { dst := some 37, op := Go.Op.move (Go.Operand.tmp 7), type := 66, pos := "law.go:46", after := #[], guard := none }) (v := ?dv0) rfl (by kernel_rfl) (by kernel_rfl) (by kernel_rfl) (fun _ _ _ h => h) (Or.inl ⟨by rfl, ?dy0⟩) (by assumption) ?dr0
          case dy0 => (intro w hSw; (try dsimp only at hSw); go_simp; try (with_reducible rfl))
          case dr0 =>
          try simp only [Act.put, List.setIfInBounds_toArray, List.set_cons_zero, List.set_cons_succ]
          refine wpAnyH_take (i := 1) (oi := { dst := some 38, op := Go.Op.fieldAddr 38 (Go.Operand.tmp 5) 4, type := 0, pos := "law.go:46", after := #[], guard := none }) (v := ?dv1) rfl (by kernel_rfl) (by kernel_rfl) (by kernel_rfl) (fun _ _ _ h => h) (Or.inl ⟨by rfl, ?dy1⟩) (by assumption) ?dr1
          case dy1 => (intro w hSw; (try dsimp only at hSw); go_simp; try (with_reducible rfl))
          case dr1 =>
          try simp only [Act.put, List.setIfInBounds_toArray, List.set_cons_zero, List.set_cons_succ]
          refine wpAnyH_take (i := 2) (oi := { dst := some 39, op := Go.Op.load 36 (Go.Operand.tmp 38), type := 36, pos := "law.go:46", after := #[{ on := 1, ground := Go.Ground.data }], guard := none }) (v := (.slice (some ⟨bb, ob, none⟩) a.ids.length cb)) rfl (by kernel_rfl) (by kernel_rfl) (by kernel_rfl) (fun _ _ _ h => h) (Or.inl ⟨by rfl, ?dy2⟩) (by assumption) ?dr2
          case dy2 => (intro w hSw; (try dsimp only at hSw); go_simp; try (simp [hSw.1]))
          case dr2 =>
          try simp only [Act.put, List.setIfInBounds_toArray, List.set_cons_zero, List.set_cons_succ]
          refine wpAnyH_take (i := 3) (oi := { dst := some 40, op := Go.Op.move (Go.Operand.tmp 9), type := 3, pos := "law.go:46", after := #[], guard := none }) (v := ?dv3) rfl (by kernel_rfl) (by kernel_rfl) (by kernel_rfl) (fun _ _ _ h => h) (Or.inl ⟨by rfl, ?dy3⟩) (by assumption) ?dr3
          case dy3 => (intro w hSw; (try dsimp only at hSw); go_simp; try (with_reducible rfl))
          case dr3 =>
          try simp only [Act.put, List.setIfInBounds_toArray, List.set_cons_zero, List.set_cons_succ]
          refine wpAnyH_take (i := 4) (oi := { dst := some 41, op := Go.Op.indexAddr 36 (Go.Operand.tmp 39) (Go.Operand.tmp 40), type := 0, pos := "law.go:46", after := #[{ on := 2, ground := Go.Ground.data }, { on := 3, ground := Go.Ground.data }], guard := none }) (v := ?dv4) rfl (by kernel_rfl) (by kernel_rfl) (by kernel_rfl) (fun _ _ _ h => h) (Or.inl ⟨by rfl, ?dy4⟩) (by assumption) ?dr4
          case dy4 => (intro w hSw; (try dsimp only at hSw); go_simp; try (with_reducible rfl))
          case dr4 =>
          try simp only [Act.put, List.setIfInBounds_toArray, List.set_cons_zero, List.set_cons_succ]
          refine wpAnyH_take (i := 5) (oi := { dst := some 42, op := Go.Op.load 5 (Go.Operand.tmp 41), type := 5, pos := "law.go:46", after := #[{ on := 4, ground := Go.Ground.data }], guard := none }) (v := (.int .u8 (un : Int))) rfl (by kernel_rfl) (by kernel_rfl) (by kernel_rfl) (fun _ _ _ h => h) (Or.inl ⟨by rfl, ?dy5⟩) (by assumption) ?dr5
          case dy5 => (intro w hSw; (try dsimp only at hSw); go_simp; try (simp [hSw.2]))
          case dr5 =>
          try simp only [Act.put, List.setIfInBounds_toArray, List.set_cons_zero, List.set_cons_succ]
          refine wpAnyH_take (i := 9) (oi := { dst := some 46, op := Go.Op.move (Go.Operand.tmp 8), type := 67, pos := "law.go:46", after := #[], guard := none }) (v := ?dv9) rfl (by kernel_rfl) (by kernel_rfl) (by kernel_rfl) (fun _ _ _ h => h) (Or.inl ⟨by rfl, ?dy9⟩) (by assumption) ?dr9
          case dy9 => (intro w hSw; (try dsimp only at hSw); go_simp; try (with_reducible rfl))
          case dr9 =>
          try simp only [Act.put, List.setIfInBounds_toArray, List.set_cons_zero, List.set_cons_succ]
          refine wpAnyH_take (i := 10) (oi := { dst := some 47, op := Go.Op.fieldAddr 38 (Go.Operand.tmp 5) 4, type := 0, pos := "law.go:46", after := #[], guard := none }) (v := ?dv10) rfl (by kernel_rfl) (by kernel_rfl) (by kernel_rfl) (fun _ _ _ h => h) (Or.inl ⟨by rfl, ?dy10⟩) (by assumption) ?dr10
          case dy10 => (intro w hSw; (try dsimp only at hSw); go_simp; try (with_reducible rfl))
          case dr10 =>
          try simp only [Act.put, List.setIfInBounds_toArray, List.set_cons_zero, List.set_cons_succ]
          refine wpAnyH_take (i := 11) (oi := { dst := some 48, op := Go.Op.load 36 (Go.Operand.tmp 47), type := 36, pos := "law.go:46", after := #[{ on := 10, ground := Go.Ground.data }], guard := none }) (v := (.slice (some ⟨bb, ob, none⟩) a.ids.length cb)) rfl (by kernel_rfl) (by kernel_rfl) (by kernel_rfl) (fun _ _ _ h => h) (Or.inl ⟨by rfl, ?dy11⟩) (by assumption) ?dr11
          case dy11 => (intro w hSw; (try dsimp only at hSw); go_simp; try (simp [hSw.1]))
          case dr11 =>
          try simp only [Act.put, List.setIfInBounds_toArray, List.set_cons_zero, List.set_cons_succ]
          refine wpAnyH_take (i := 12) (oi := { dst := some 49, op := Go.Op.move (Go.Operand.tmp 9), type := 3, pos := "law.go:46", after := #[], guard := none }) (v := ?dv12) rfl (by kernel_rfl) (by kernel_rfl) (by kernel_rfl) (fun _ _ _ h => h) (Or.inl ⟨by rfl, ?dy12⟩) (by assumption) ?dr12
          case dy12 => (intro w hSw; (try dsimp only at hSw); go_simp; try (with_reducible rfl))
          case dr12 =>
          try simp only [Act.put, List.setIfInBounds_toArray, List.set_cons_zero, List.set_cons_succ]
          refine wpAnyH_take (i := 13) (oi := { dst := some 50, op := Go.Op.indexAddr 36 (Go.Operand.tmp 48) (Go.Operand.tmp 49), type := 0, pos := "law.go:46", after := #[{ on := 11, ground := Go.Ground.data }, { on := 12, ground := Go.Ground.data }], guard := none }) (v := ?dv13) rfl (by kernel_rfl) (by kernel_rfl) (by kernel_rfl) (fun _ _ _ h => h) (Or.inl ⟨by rfl, ?dy13⟩) (by assumption) ?dr13
          case dy13 => (intro w hSw; (try dsimp only at hSw); go_simp; try (with_reducible rfl))
          case dr13 =>
          try simp only [Act.put, List.setIfInBounds_toArray, List.set_cons_zero, List.set_cons_succ]
          refine wpAnyH_take (i := 14) (oi := { dst := some 51, op := Go.Op.load 5 (Go.Operand.tmp 50), type := 5, pos := "law.go:46", after := #[{ on := 13, ground := Go.Ground.data }], guard := none }) (v := (.int .u8 (un : Int))) rfl (by kernel_rfl) (by kernel_rfl) (by kernel_rfl) (fun _ _ _ h => h) (Or.inl ⟨by rfl, ?dy14⟩) (by assumption) ?dr14
          case dy14 => (intro w hSw; (try dsimp only at hSw); go_simp; try (simp [hSw.2]))
          case dr14 =>
          try simp only [Act.put, List.setIfInBounds_toArray, List.set_cons_zero, List.set_cons_succ]
          refine wpAnyH_ready (rs := [6]) (by kernel_rfl) (by simp) ?_
          refine AllReadyH.cons (o := { dst := some 43, op := Go.Op.call { callee := Go.Callee.value (Go.Operand.func 12), args := #[Go.Operand.tmp 42], argTypes := #[5] }, type := 45, pos := "law.go:46", after := #[{ on := 5, ground := Go.Ground.data }], guard := none }) rfl (fun K hK => ?_) (AllReadyH.nil)
          go_simp
          refine (HNM2.out _).mono ?_
          rintro e2 w2 ⟨rfl, hb2⟩
          have B2 := Lib.hid (HLS.out.bel.drew.trans (hb2.mono HLS.out.bel.size))
          have O7 := Lib.hid (own_turns (w := wr.drew) HLS.out.o7 (S := fun _ => False) (Turns.of_below hb2) (fun _ _ q => q))
          have O8 := Lib.hid (own_turns (w := wr.drew) HLS.out.o8 (S := fun _ => False) (Turns.of_below hb2) (fun _ _ q => q))
          clear hb2
          refine hK.out _ _ ?_ (fun hHeld => ?_)
          · exact ⟨HQ4.out _ B2.out, HCALL.out _ B2.out⟩
          clear hK K
          try simp only [Act.put, List.setIfInBounds_toArray, List.set_cons_zero, List.set_cons_succ]
          refine wpAnyH_ready (rs := [7]) (by kernel_rfl) (by simp) ?_
          refine AllReadyH.cons (o := { dst := some 44, op := Go.Op.buildSlice 66 1 #[(0, Go.Operand.tmp 43)], type := 66, pos := "law.go:46", after := #[{ on := 6, ground := Go.Ground.data }], guard := none }) rfl (fun K hK => ?_) (AllReadyH.nil)
          refine wp_buildSlice _ _ _ rfl _ _ (by simp only [List.map_toArray, List.map_cons, List.map_nil]; exact HON.out _) ?_
          refine hK.out _ _ ?_ (fun hHeld => ?_)
          · exact ⟨HQ4.out _ (B2.out.alloc B2.out.size _), HCALL.out _ (B2.out.alloc B2.out.size _)⟩
          clear hK K
          try simp only [Act.put, List.setIfInBounds_toArray, List.set_cons_zero, List.set_cons_succ]
          refine wpAnyH_ready (rs := [8]) (by kernel_rfl) (by simp) ?_
          refine AllReadyH.cons (o := { dst := some 45, op := Go.Op.call { callee := Go.Callee.builtin Go.Builtin.append, args := #[Go.Operand.tmp 37, Go.Operand.tmp 44], argTypes := #[66, 66] }, type := 66, pos := "law.go:46", after := #[{ on := 0, ground := Go.Ground.data }, { on := 7, ground := Go.Ground.data }, { on := 6, ground := Go.Ground.chain }], guard := none }) rfl (fun K hK => ?_) (AllReadyH.nil)
          refine op_append_row 66 45 info_hash32 Try.underlying66 _ _ rfl w1.heap.size (Nat.le_trans B2.out.size (by simp)) _ _ _ rfl ((own_turns O7.out (S := fun _ => False) ((Turns.refl _ w2).alloc _) (fun _ _ q => q))) w2.heap.size (KU.map (Value.int .u8)) rfl HKL.out (fun j x hx => (cell_of_row _ _ j _ _ _ (heap_alloc_new w2 _)).trans (by simpa using hx)) HK1'.out (by have := HLK.out; omega) ?_
          intro v7' w4 own7 gr7
          have B4 := Lib.hid ((B2.out.alloc B2.out.size _).grown gr7 (Nat.le_trans B2.out.size (by simp)) (fun q hq => (own_ge O7.out q hq).1))
          have O8' := Lib.hid (own_turns O8.out (S := fun q => u7.ownBlock = some q) (((Turns.refl _ w2).alloc _).grown gr7 (fun q hq _ => hq)) (fun q hq hq2 => own_two O7.out O8.out (by decide) q hq2 hq))
          have OWN7 := Lib.hid own7
          refine hK.out _ _ ?_ (fun hHeld => ?_)
          · exact ⟨HQ4.out _ B4.out, HCALL.out _ B4.out⟩
          clear hK K
          try simp only [Act.put, List.setIfInBounds_toArray, List.set_cons_zero, List.set_cons_succ]
          refine wpAnyH_ready (rs := [15]) (by kernel_rfl) (by simp) ?_
          refine AllReadyH.cons (o := { dst := some 52, op := Go.Op.call { callee := Go.Callee.value (Go.Operand.func 12), args := #[Go.Operand.tmp 51], argTypes := #[5] }, type := 45, pos := "law.go:46", after := #[{ on := 14, ground := Go.Ground.data }, { on := 8, ground := Go.Ground.chain }], guard := none }) rfl (fun K hK => ?_) (AllReadyH.nil)
          go_simp
          refine (HNM2.out _).mono ?_
          rintro e5 w5 ⟨rfl, hb5⟩
          have B5 := Lib.hid (B4.out.trans (hb5.mono B4.out.size))
          have P7 := Lib.hid (own_turns OWN7.out (S := fun _ => False) (Turns.of_below hb5) (fun _ _ q => q))
          have P8 := Lib.hid (own_turns O8'.out (S := fun _ => False) (Turns.of_below hb5) (fun _ _ q => q))
          clear hb5
          refine hK.out _ _ ?_ (fun hHeld => ?_)
          · exact ⟨HQ4.out _ B5.out, HCALL.out _ B5.out⟩
          clear hK K
          try simp only [Act.put, List.setIfInBounds_toArray, List.set_cons_zero, List.set_cons_succ]
          refine wpAnyH_ready (rs := [16]) (by kernel_rfl) (by simp) ?_
          refine AllReadyH.cons (o := { dst := some 53, op := Go.Op.buildSlice 67 1 #[(0, Go.Operand.tmp 52)], type := 67, pos := "law.go:46", after := #[{ on := 15, ground := Go.Ground.data }], guard := none }) rfl (fun K hK => ?_) (AllReadyH.nil)
          refine wp_buildSlice _ _ _ rfl _ _ (by simp only [List.map_toArray, List.map_cons, List.map_nil]; exact HOR.out _) ?_
          refine hK.out _ _ ?_ (fun hHeld => ?_)
          · exact ⟨HQ4.out _ (B5.out.alloc B5.out.size _), HCALL.out _ (B5.out.alloc B5.out.size _)⟩
          clear hK K
          try simp only [Act.put, List.setIfInBounds_toArray, List.set_cons_zero, List.set_cons_succ]
          refine wpAnyH_ready (rs := [17]) (by kernel_rfl) (by simp) ?_
          refine AllReadyH.cons (o := { dst := some 54, op := Go.Op.call { callee := Go.Callee.builtin Go.Builtin.append, args := #[Go.Operand.tmp 46, Go.Operand.tmp 53], argTypes := #[67, 67] }, type := 67, pos := "law.go:46", after := #[{ on := 9, ground := Go.Ground.data }, { on := 16, ground := Go.Ground.data }, { on := 15, ground := Go.Ground.chain }], guard := none }) rfl (fun K hK => ?_) (AllReadyH.nil)
          refine op_append_row 67 39 info_raw32 Try.underlying67 _ _ rfl w1.heap.size (Nat.le_trans B5.out.size (by simp)) _ _ _ rfl ((own_turns P8.out (S := fun _ => False) ((Turns.refl _ w5).alloc _) (fun _ _ q => q))) w5.heap.size (KU.map (Value.int .u8)) rfl HKL.out (fun j x hx => (cell_of_row _ _ j _ _ _ (heap_alloc_new w5 _)).trans (by simpa using hx)) HK1'.out (by have := HLK.out; omega) ?_
          intro v8' w6 own8 gr8
          have B6 := Lib.hid ((B5.out.alloc B5.out.size _).grown gr8 (Nat.le_trans B5.out.size (by simp)) (fun q hq => (own_ge P8.out q hq).1))
          have P7' := Lib.hid (own_turns P7.out (S := fun q => u8.ownBlock = some q) (((Turns.refl _ w5).alloc _).grown gr8 (fun q hq _ => hq)) (fun q hq hq2 => own_two P7.out P8.out (by decide) q hq hq2))
          have OWN8 := Lib.hid own8
          refine hK.out _ _ ?_ (fun hHeld => ?_)
          · exact ⟨HQ4.out _ B6.out, HCALL.out _ B6.out⟩
          clear hK K
          try simp only [Act.put, List.setIfInBounds_toArray, List.set_cons_zero, List.set_cons_succ]
          refine wpAnyH_take (i := 18) (oi := { dst := some 7, op := Go.Op.assign (Go.Operand.tmp 45), type := 66, pos := "law.go:46", after := #[{ on := 8, ground := Go.Ground.data }, { on := 17, ground := Go.Ground.chain }, { on := 0, ground := Go.Ground.phase }, { on := 1, ground := Go.Ground.phase }, { on := 2, ground := Go.Ground.phase }, { on := 3, ground := Go.Ground.phase }, { on := 4, ground := Go.Ground.phase }, { on := 5, ground := Go.Ground.phase }, { on := 6, ground := Go.Ground.phase }, { on := 7, ground := Go.Ground.phase }, { on := 8, ground := Go.Ground.phase }, { on := 9, ground := Go.Ground.textOnly Go.Departure.lateStores }, { on := 10, ground := Go.Ground.textOnly Go.Departure.lateStores }, { on := 11, ground := Go.Ground.textOnly Go.Departure.lateStores }, { on := 12, ground := Go.Ground.textOnly Go.Departure.lateStores }, { on := 13, ground := Go.Ground.textOnly Go.Departure.lateStores }, { on := 14, ground := Go.Ground.textOnly Go.Departure.lateStores }, { on := 15, ground := Go.Ground.textOnly Go.Departure.lateStoresUnsure }, { on := 16, ground := Go.Ground.textOnly Go.Departure.lateStores }, { on := 17, ground := Go.Ground.textOnly Go.Departure.lateStoresUnsure }], guard := none }) (v := ?d_6_7_8_15_16_17v18) rfl (by kernel_rfl) (by kernel_rfl) (by kernel_rfl) (fun _ _ _ h => h) (Or.inl ⟨by rfl, ?d_6_7_8_15_16_17y18⟩) (by assumption) ?d_6_7_8_15_16_17r18
          case d_6_7_8_15_16_17y18 => (intro w hSw; (try dsimp only at hSw); go_simp; try (with_reducible rfl))
          case d_6_7_8_15_16_17r18 =>
          try simp only [Act.put, List.setIfInBounds_toArray, List.set_cons_zero, List.set_cons_succ]
          refine wpAnyH_take (i := 19) (oi := { dst := some 8, op := Go.Op.assign (Go.Operand.tmp 54), type := 67, pos := "law.go:46", after := #[{ on := 17, ground := Go.Ground.data }, { on := 18, ground := Go.Ground.chain }, { on := 0, ground := Go.Ground.phase }, { on := 1, ground := Go.Ground.phase }, { on := 2, ground := Go.Ground.phase }, { on := 3, ground := Go.Ground.phase }, { on := 4, ground := Go.Ground.phase }, { on := 5, ground := Go.Ground.phase }, { on := 6, ground := Go.Ground.phase }, { on := 7, ground := Go.Ground.phase }, { on := 8, ground := Go.Ground.phase }, { on := 9, ground := Go.Ground.phase }, { on := 10, ground := Go.Ground.phase }, { on := 11, ground := Go.Ground.phase }, { on := 12, ground := Go.Ground.phase }, { on := 13, ground := Go.Ground.phase }, { on := 14, ground := Go.Ground.phase }, { on := 15, ground := Go.Ground.phase }, { on := 16, ground := Go.Ground.phase }, { on := 17, ground := Go.Ground.phase }, { on := 18, ground := Go.Ground.phase }], guard := none }) (v := ?d_6_7_8_15_16_17v19) rfl (by kernel_rfl) (by kernel_rfl) (by kernel_rfl) (fun _ _ _ h => h) (Or.inl ⟨by rfl, ?d_6_7_8_15_16_17y19⟩) (by assumption) ?d_6_7_8_15_16_17r19
          case d_6_7_8_15_16_17y19 => (intro w hSw; (try dsimp only at hSw); go_simp; try (with_reducible rfl))
          case d_6_7_8_15_16_17r19 =>
          try simp only [Act.put, List.setIfInBounds_toArray, List.set_cons_zero, List.set_cons_succ]
          refine wpAnyH_done (by kernel_rfl) ?_ _
          have HEND := Lib.hid (show LsAt w1 w6 ((a.ids.take (k + 1)).map (·.toNat)) v7' v8' from by
            have hl : ((a.ids.take (k + 1)).map (·.toNat)).length = L.length + 1 := by rw [HTK.out]; simp
            refine ⟨B6.out, ?_, ?_⟩
            · rw [hl, HFL.out _ HTK.out]; exact P7'.out
            · rw [hl, HFL.out _ HTK.out]; exact OWN8.out)
          clear own7 own8 gr7 gr8
          go_wp2_with fail
          exact ⟨⟨k + 1, hl1, hl2, by first | rfl | (rw [wrap_small2 (by omega) (by omega)]; rfl), HEND.out⟩, by first | exact meas_add hl2 | exact meas_up hl2⟩
        · have htk : (a.ids.take k).map (·.toNat) = (a.ids.take 40).map (·.toNat) := by
            have e : a.ids.take k = a.ids.take 40 := by
              rcases Nat.lt_or_ge k 40 with h1 | h1
              · rw [List.take_of_length_le (by omega), List.take_of_length_le (by omega)]
              · rw [show k = 40 by omega]
            rw [e]
          rw [htk, ← HLL.out] at hls
          have q5 : wr.cell? ⟨G2, 3, none⟩ = some (.int .i64 a.ht) := hatr.r2.cell HK3.out
          have hli : ∀ id ∈ LL, id < 256 := fun id hid => by
            rw [HLL.out] at hid
            obtain ⟨z, _, rfl⟩ := List.mem_map.1 hid
            exact UInt8.toNat_lt z
          have hbl := block_any 7 g n m S a.ht u7 LL wr (.inl rfl) hli hatr.own.1 HS.out (by omega) (nmS_own hls.o7 (own_apart hls.o7 (by decide) hatr.own.1)) HA.out.2.1 HA.out.2.2
          have HBL := Lib.hid hbl
          have HATR := Lib.hid hatr
          have HLS := Lib.hid hls
          have HLI := Lib.hid hli
          have hcase : (k < a.ids.length ∧ ¬ k < 40) ∨ ¬ k < a.ids.length := by omega
          clear hls hatr hbl hli htk hlt hk hk40
          rcases hcase with ⟨c1, c2⟩ | c1
          · as_aux_lemma =>
            have dk1 : decide ((k : Int) < (a.ids.length : Int)) = true := decide_eq_true (by omega)
            have dk2 : decide ((k : Int) < 40) = false := decide_eq_false (by omega)
            go_wp2_with fail
            refine (HBL.out).mono ?_
            rintro e3 w3 ⟨rfl, hb3, ht3⟩
            have A3 := Lib.hid (HATR.out.turned (HATR.out.own.turned hb3 ht3) ht3 (fun _ q => q))
            have N8 := Lib.hid (show NmS w3 7 u8 LL (fun q => w3.heap.size ≤ q) from nmS_own (own_turns HLS.out.o8 ht3 (own_apart HLS.out.o8 (by decide) HATR.out.own.1)) (fun q hq hq2 => by have := (own_ge HLS.out.o8 q hq).2; have := ht3.size; omega))
            have hrb := rblock_any 7 n us S a.ht u8 LL w3 (by omega) HLI.out A3.out.ref HS.out (by omega) N8.out HA.out.2.1 HA.out.2.2
            have HRB := Lib.hid hrb
            have q5 : w3.cell? ⟨G2, 3, none⟩ = some (.int .i64 a.ht) := A3.out.r2.cell HK3.out
            clear hb3 ht3 hrb
            go_wp2_with (first
              | (refine wpList_load_vrow rfl 30 _ rfl rfl A3.out.r1 Try.underlying30 HSZ.out ?_)
              | fail)
            refine HRB.out.mono ?_
            rintro e5 w5 ⟨us5, rfl, hr5, hb5⟩
            have A5 := Lib.hid (A3.out.below hb5)
            have R5 := Lib.hid hr5
            have L5 := Lib.hid (show ZS.length = us5.length by rw [HZL.out, R5.out.1.len])
            clear hb5 hr5
            go_wp2_with (first
              | (refine wpList_store_vrow rfl 30 _ _ rfl rfl rfl A5.out.r3 R5.out.size L5.out R5.out.one ?_)
              | fail)
            refine bodyPost_ret (v := .agg us5.toArray) ?_ rfl ⟨us5, _, rfl, (A5.out.stored R5.out).1, (A5.out.stored R5.out).2.1, (A5.out.stored R5.out).2.2.2, .inl rfl⟩
            exact results_cell_row Try.results8 _ _ G3 30 us5.toArray (0, 0) _ rfl (A5.out.stored R5.out).2.2.1 Try.underlying30 rfl (by rw [List.size_toArray]; exact R5.out.size)
          · as_aux_lemma =>
            have dk1 : decide ((k : Int) < (a.ids.length : Int)) = false := decide_eq_false (by omega)
            go_wp2_with fail
            refine (HBL.out).mono ?_
            rintro e3 w3 ⟨rfl, hb3, ht3⟩
            have A3 := Lib.hid (HATR.out.turned (HATR.out.own.turned hb3 ht3) ht3 (fun _ q => q))
            have N8 := Lib.hid (show NmS w3 7 u8 LL (fun q => w3.heap.size ≤ q) from nmS_own (own_turns HLS.out.o8 ht3 (own_apart HLS.out.o8 (by decide) HATR.out.own.1)) (fun q hq hq2 => by have := (own_ge HLS.out.o8 q hq).2; have := ht3.size; omega))
            have hrb := rblock_any 7 n us S a.ht u8 LL w3 (by omega) HLI.out A3.out.ref HS.out (by omega) N8.out HA.out.2.1 HA.out.2.2
            have HRB := Lib.hid hrb
            have q5 : w3.cell? ⟨G2, 3, none⟩ = some (.int .i64 a.ht) := A3.out.r2.cell HK3.out
            clear hb3 ht3 hrb
            go_wp2_with (first
              | (refine wpList_load_vrow rfl 30 _ rfl rfl A3.out.r1 Try.underlying30 HSZ.out ?_)
              | fail)
            refine HRB.out.mono ?_
            rintro e5 w5 ⟨us5, rfl, hr5, hb5⟩
            have A5 := Lib.hid (A3.out.below hb5)
            have R5 := Lib.hid hr5
            have L5 := Lib.hid (show ZS.length = us5.length by rw [HZL.out, R5.out.1.len])
            clear hb5 hr5
            go_wp2_with (first
              | (refine wpList_store_vrow rfl 30 _ _ rfl rfl rfl A5.out.r3 R5.out.size L5.out R5.out.one ?_)
              | fail)
            refine bodyPost_ret (v := .agg us5.toArray) ?_ rfl ⟨us5, _, rfl, (A5.out.stored R5.out).1, (A5.out.stored R5.out).2.1, (A5.out.stored R5.out).2.2.2, .inl rfl⟩
            exact results_cell_row Try.results8 _ _ G3 30 us5.toArray (0, 0) _ rfl (A5.out.stored R5.out).2.2.1 Try.underlying30 rfl (by rw [List.size_toArray]; exact R5.out.size)
    · have d2 : (a.kd == 2) = false := by simp [hk2]
      have d2' : decide (a.kd = 2) = false := decide_eq_false hk2
      have eF : actF S a = enterF S id a.rate a.ht := by unfold actF; rw [if_neg hk1, if_neg hk2, HID.out]
      rw [eF]
      have hfg := fun W m (h : BookAt W 7 g m S) => enter_any 7 g id m S a.rate a.ht W (.inl rfl) cid h HWI.out HS.out.nd HA.out.1.1 HA.out.1.2
      have hrf := fun W us (h : RefV W 7 us S) => rent_any 7 id 0 us S a.rate a.ht W (by omega) cid h HWI.out (by have := HS.out.len; omega) HA.out.1.2
      unfold nmV at hfg hrf
      rw [← HKK.out] at hfg hrf
      have HFG := Lib.hid hfg
      have HRF := Lib.hid hrf
      clear eF hk1 hk2 hfg hrf
      go_enter Try.func8, Try.ntmps8
      go_upto_region 1 with fail
      change Code.wp _ _ _ _ (((wr.alloc (.cells us.toArray 30)).alloc (.cells AC.toArray 38)).alloc (.cells ZS.toArray 30))
      rw [← HW1.out, show wr.heap.size + 1 + 1 = G3 from HG3.out.symm, show wr.heap.size + 1 = G2 from HG2.out.symm, show wr.heap.size = G1 from HG1.out.symm]
      clear HW1 HG1 HG2 HG3
      try dsimp only [Act.put]
      have q0 : w1.cell? ⟨G2, 0, none⟩ = some (.int .i64 a.kd) := HAT.out.r2.cell HK0.out
      have q1 : w1.drew.cell? ⟨G2, 1, none⟩ = some (.int .u8 (id : Int)) := HAT.out.r2.cell HK1.out
      have q2 : w1.drew.cell? ⟨G2, 2, none⟩ = some (.int .i64 a.rate) := HAT.out.r2.cell HK2.out
      have q3 : w1.drew.cell? ⟨G2, 3, none⟩ = some (.int .i64 a.ht) := HAT.out.r2.cell HK3.out
      go_wp2_with fail
      refine wp_region_held_drew (S := (fun w' => w'.cell? ⟨G2, 1, none⟩ = some (.int .u8 (id : Int)) ∧ w'.cell? ⟨G2, 2, none⟩ = some (.int .i64 a.rate) ∧ w'.cell? ⟨G2, 3, none⟩ = some (.int .i64 a.ht))) (by kernel_rfl) ?_ (fun hHeld => ?_)
      · exact ⟨q1, q2, q3⟩
      refine wpAnyH_take (i := 0) (oi := { dst := some 65, op := Go.Op.move (Go.Operand.tmp 0), type := 24, pos := "law.go:51", after := #[], guard := none }) (v := ?bv0) rfl (by kernel_rfl) (by kernel_rfl) (by kernel_rfl) (fun _ _ _ h => h) (Or.inl ⟨by rfl, ?by0⟩) (by assumption) ?br0
      case by0 => (intro w hSw; (try dsimp only at hSw); go_simp; try (with_reducible rfl))
      case br0 =>
      try simp only [Act.put, List.setIfInBounds_toArray, List.set_cons_zero, List.set_cons_succ]
      refine wpAnyH_take (i := 1) (oi := { dst := some 66, op := Go.Op.fieldAddr 38 (Go.Operand.tmp 5) 1, type := 0, pos := "law.go:51", after := #[], guard := none }) (v := ?bv1) rfl (by kernel_rfl) (by kernel_rfl) (by kernel_rfl) (fun _ _ _ h => h) (Or.inl ⟨by rfl, ?by1⟩) (by assumption) ?br1
      case by1 => (intro w hSw; (try dsimp only at hSw); go_simp; try (with_reducible rfl))
      case br1 =>
      try simp only [Act.put, List.setIfInBounds_toArray, List.set_cons_zero, List.set_cons_succ]
      refine wpAnyH_take (i := 2) (oi := { dst := some 67, op := Go.Op.load 5 (Go.Operand.tmp 66), type := 5, pos := "law.go:51", after := #[{ on := 1, ground := Go.Ground.data }], guard := none }) (v := (.int .u8 (id : Int))) rfl (by kernel_rfl) (by kernel_rfl) (by kernel_rfl) (fun _ _ _ h => h) (Or.inl ⟨by rfl, ?by2⟩) (by assumption) ?br2
      case by2 => (intro w hSw; (try dsimp only at hSw); go_simp; try (simp [hSw.1]))
      case br2 =>
      try simp only [Act.put, List.setIfInBounds_toArray, List.set_cons_zero, List.set_cons_succ]
      refine wpAnyH_take (i := 4) (oi := { dst := some 69, op := Go.Op.fieldAddr 38 (Go.Operand.tmp 5) 2, type := 0, pos := "law.go:51", after := #[], guard := none }) (v := ?bv4) rfl (by kernel_rfl) (by kernel_rfl) (by kernel_rfl) (fun _ _ _ h => h) (Or.inl ⟨by rfl, ?by4⟩) (by assumption) ?br4
      case by4 => (intro w hSw; (try dsimp only at hSw); go_simp; try (with_reducible rfl))
      case br4 =>
      try simp only [Act.put, List.setIfInBounds_toArray, List.set_cons_zero, List.set_cons_succ]
      refine wpAnyH_take (i := 5) (oi := { dst := some 70, op := Go.Op.load 2 (Go.Operand.tmp 69), type := 2, pos := "law.go:51", after := #[{ on := 4, ground := Go.Ground.data }], guard := none }) (v := (.int .i64 a.rate)) rfl (by kernel_rfl) (by kernel_rfl) (by kernel_rfl) (fun _ _ _ h => h) (Or.inl ⟨by rfl, ?by5⟩) (by assumption) ?br5
      case by5 => (intro w hSw; (try dsimp only at hSw); go_simp; try (simp [hSw.2.1]))
      case br5 =>
      try simp only [Act.put, List.setIfInBounds_toArray, List.set_cons_zero, List.set_cons_succ]
      refine wpAnyH_take (i := 6) (oi := { dst := some 71, op := Go.Op.fieldAddr 38 (Go.Operand.tmp 5) 3, type := 0, pos := "law.go:51", after := #[], guard := none }) (v := ?bv6) rfl (by kernel_rfl) (by kernel_rfl) (by kernel_rfl) (fun _ _ _ h => h) (Or.inl ⟨by rfl, ?by6⟩) (by assumption) ?br6
      case by6 => (intro w hSw; (try dsimp only at hSw); go_simp; try (with_reducible rfl))
      case br6 =>
      try simp only [Act.put, List.setIfInBounds_toArray, List.set_cons_zero, List.set_cons_succ]
      refine wpAnyH_take (i := 7) (oi := { dst := some 72, op := Go.Op.load 3 (Go.Operand.tmp 71), type := 3, pos := "law.go:51", after := #[{ on := 6, ground := Go.Ground.data }], guard := none }) (v := (.int .i64 a.ht)) rfl (by kernel_rfl) (by kernel_rfl) (by kernel_rfl) (fun _ _ _ h => h) (Or.inl ⟨by rfl, ?by7⟩) (by assumption) ?br7
      case by7 => (intro w hSw; (try dsimp only at hSw); go_simp; try (simp [hSw.2.2]))
      case br7 =>
      try simp only [Act.put, List.setIfInBounds_toArray, List.set_cons_zero, List.set_cons_succ]
      refine wpAnyH_ready (rs := [3]) (by kernel_rfl) (by simp) ?_
      refine AllReadyH.cons (o := { dst := some 68, op := Go.Op.call { callee := Go.Callee.value (Go.Operand.func 12), args := #[Go.Operand.tmp 67], argTypes := #[5] }, type := 45, pos := "law.go:51", after := #[{ on := 2, ground := Go.Ground.data }], guard := none }) rfl (fun K hK => ?_) (AllReadyH.nil)
      go_simp
      refine (HNM.out _).mono ?_
      rintro e2 w2 ⟨rfl, hb2⟩
      have A2 := Lib.hid (HAT.out.drew.below hb2)
      clear hb2
      refine hK.out _ _ ?_ (fun hHeld => ?_)
      · exact ⟨A2.out.r2.cell HK1.out, A2.out.r2.cell HK2.out, A2.out.r2.cell HK3.out⟩
      clear hK K
      try simp only [Act.put, List.setIfInBounds_toArray, List.set_cons_zero, List.set_cons_succ]
      refine wpAnyH_ready (rs := [8]) (by kernel_rfl) (by simp) ?_
      refine AllReadyH.cons (o := { dst := some 73, op := Go.Op.call { callee := Go.Callee.value (Go.Operand.func 11), args := #[Go.Operand.tmp 65, Go.Operand.tmp 68, Go.Operand.tmp 70, Go.Operand.tmp 72], argTypes := #[24, 45, 2, 3] }, type := 0, pos := "law.go:51", after := #[{ on := 0, ground := Go.Ground.data }, { on := 3, ground := Go.Ground.data }, { on := 5, ground := Go.Ground.data }, { on := 7, ground := Go.Ground.data }, { on := 3, ground := Go.Ground.chain }], guard := none }) rfl (fun K hK => ?_) (AllReadyH.nil)
      go_simp
      refine (HFG.out _ _ A2.out.own.1).mono ?_
      rintro e3 w3 ⟨rfl, hen⟩
      obtain ⟨m3, hO3, hfr⟩ := A2.out.own.entered2 hen
      obtain ⟨_, _, ht3, _⟩ := hen
      have HFR := Lib.hid (show m3 = m ∨ ∀ b, m3 = some b → wr.heap.size ≤ b from hfr.imp (fun q => q) (fun q b hb => Nat.le_trans A2.out.tu.size (q b hb)))
      have A3 := Lib.hid (A2.out.turned hO3 ht3 (fun _ q => q))
      refine hK.out _ _ ?_ (fun hHeld => ?_)
      · exact ⟨A3.out.r2.cell HK1.out, A3.out.r2.cell HK2.out, A3.out.r2.cell HK3.out⟩
      clear hK K
      try simp only [Act.put, List.setIfInBounds_toArray, List.set_cons_zero, List.set_cons_succ]
      refine wpAnyH_done (by kernel_rfl) ?_ _
      have q6 : w3.drew.cell? ⟨G2, 1, none⟩ = some (.int .u8 (id : Int)) := A3.out.r2.cell HK1.out
      have q7 : w3.drew.cell? ⟨G2, 2, none⟩ = some (.int .i64 a.rate) := A3.out.r2.cell HK2.out
      have q8 : w3.drew.cell? ⟨G2, 3, none⟩ = some (.int .i64 a.ht) := A3.out.r2.cell HK3.out
      clear hO3 ht3 hfr q0 q1 q2 q3
      go_wp2_with fail
      refine wp_region_held_drew (S := (fun w' => VRow w' G1 30 us ∧ w'.cell? ⟨G2, 1, none⟩ = some (.int .u8 (id : Int)) ∧ w'.cell? ⟨G2, 2, none⟩ = some (.int .i64 a.rate) ∧ w'.cell? ⟨G2, 3, none⟩ = some (.int .i64 a.ht))) (by kernel_rfl) ?_ (fun hHeld => ?_)
      · exact ⟨A3.out.r1, q6, q7, q8⟩
      refine wpAnyH_take (i := 0) (oi := { dst := some 74, op := Go.Op.load 30 (Go.Operand.tmp 4), type := 30, pos := "law.go:52", after := #[], guard := none }) (v := (.agg us.toArray)) rfl (by kernel_rfl) (by kernel_rfl) (by kernel_rfl) (fun _ _ _ h => h) (yieldsIf_load_mid (by rfl) 30 (.tmp 4) rfl G1 0 rfl us _ (fun w' h => vrow_range0 h.1) Try.underlying30 rfl HSZ.out) (by assumption) ?_
      try simp only [Act.put, List.setIfInBounds_toArray, List.set_cons_zero, List.set_cons_succ]
      refine wpAnyH_take (i := 1) (oi := { dst := some 75, op := Go.Op.fieldAddr 38 (Go.Operand.tmp 5) 1, type := 0, pos := "law.go:52", after := #[], guard := none }) (v := ?cv1) rfl (by kernel_rfl) (by kernel_rfl) (by kernel_rfl) (fun _ _ _ h => h) (Or.inl ⟨by rfl, ?cy1⟩) (by assumption) ?cr1
      case cy1 => (intro w hSw; (try dsimp only at hSw); go_simp; try (with_reducible rfl))
      case cr1 =>
      try simp only [Act.put, List.setIfInBounds_toArray, List.set_cons_zero, List.set_cons_succ]
      refine wpAnyH_take (i := 2) (oi := { dst := some 76, op := Go.Op.load 5 (Go.Operand.tmp 75), type := 5, pos := "law.go:52", after := #[{ on := 1, ground := Go.Ground.data }], guard := none }) (v := (.int .u8 (id : Int))) rfl (by kernel_rfl) (by kernel_rfl) (by kernel_rfl) (fun _ _ _ h => h) (Or.inl ⟨by rfl, ?cy2⟩) (by assumption) ?cr2
      case cy2 => (intro w hSw; (try dsimp only at hSw); go_simp; try (simp [hSw.2.1]))
      case cr2 =>
      try simp only [Act.put, List.setIfInBounds_toArray, List.set_cons_zero, List.set_cons_succ]
      refine wpAnyH_take (i := 4) (oi := { dst := some 78, op := Go.Op.fieldAddr 38 (Go.Operand.tmp 5) 2, type := 0, pos := "law.go:52", after := #[], guard := none }) (v := ?cv4) rfl (by kernel_rfl) (by kernel_rfl) (by kernel_rfl) (fun _ _ _ h => h) (Or.inl ⟨by rfl, ?cy4⟩) (by assumption) ?cr4
      case cy4 => (intro w hSw; (try dsimp only at hSw); go_simp; try (with_reducible rfl))
      case cr4 =>
      try simp only [Act.put, List.setIfInBounds_toArray, List.set_cons_zero, List.set_cons_succ]
      refine wpAnyH_take (i := 5) (oi := { dst := some 79, op := Go.Op.load 2 (Go.Operand.tmp 78), type := 2, pos := "law.go:52", after := #[{ on := 4, ground := Go.Ground.data }], guard := none }) (v := (.int .i64 a.rate)) rfl (by kernel_rfl) (by kernel_rfl) (by kernel_rfl) (fun _ _ _ h => h) (Or.inl ⟨by rfl, ?cy5⟩) (by assumption) ?cr5
      case cy5 => (intro w hSw; (try dsimp only at hSw); go_simp; try (simp [hSw.2.2.1]))
      case cr5 =>
      try simp only [Act.put, List.setIfInBounds_toArray, List.set_cons_zero, List.set_cons_succ]
      refine wpAnyH_take (i := 6) (oi := { dst := some 80, op := Go.Op.fieldAddr 38 (Go.Operand.tmp 5) 3, type := 0, pos := "law.go:52", after := #[], guard := none }) (v := ?cv6) rfl (by kernel_rfl) (by kernel_rfl) (by kernel_rfl) (fun _ _ _ h => h) (Or.inl ⟨by rfl, ?cy6⟩) (by assumption) ?cr6
      case cy6 => (intro w hSw; (try dsimp only at hSw); go_simp; try (with_reducible rfl))
      case cr6 =>
      try simp only [Act.put, List.setIfInBounds_toArray, List.set_cons_zero, List.set_cons_succ]
      refine wpAnyH_take (i := 7) (oi := { dst := some 81, op := Go.Op.load 3 (Go.Operand.tmp 80), type := 3, pos := "law.go:52", after := #[{ on := 6, ground := Go.Ground.data }], guard := none }) (v := (.int .i64 a.ht)) rfl (by kernel_rfl) (by kernel_rfl) (by kernel_rfl) (fun _ _ _ h => h) (Or.inl ⟨by rfl, ?cy7⟩) (by assumption) ?cr7
      case cy7 => (intro w hSw; (try dsimp only at hSw); go_simp; try (simp [hSw.2.2.2]))
      case cr7 =>
      try simp only [Act.put, List.setIfInBounds_toArray, List.set_cons_zero, List.set_cons_succ]
      refine wpAnyH_ready (rs := [3]) (by kernel_rfl) (by simp) ?_
      refine AllReadyH.cons (o := { dst := some 77, op := Go.Op.call { callee := Go.Callee.value (Go.Operand.func 12), args := #[Go.Operand.tmp 76], argTypes := #[5] }, type := 45, pos := "law.go:52", after := #[{ on := 2, ground := Go.Ground.data }], guard := none }) rfl (fun K hK => ?_) (AllReadyH.nil)
      go_simp
      refine (HNM.out _).mono ?_
      rintro e4 w4 ⟨rfl, hb4⟩
      have A4 := Lib.hid (A3.out.drew.below hb4)
      clear hb4
      refine hK.out _ _ ?_ (fun hHeld => ?_)
      · exact ⟨A4.out.r1, A4.out.r2.cell HK1.out, A4.out.r2.cell HK2.out, A4.out.r2.cell HK3.out⟩
      clear hK K
      try simp only [Act.put, List.setIfInBounds_toArray, List.set_cons_zero, List.set_cons_succ]
      refine wpAnyH_ready (rs := [8]) (by kernel_rfl) (by simp) ?_
      refine AllReadyH.cons (o := { dst := some 82, op := Go.Op.call { callee := Go.Callee.value (Go.Operand.func 23), args := #[Go.Operand.tmp 74, Go.Operand.tmp 77, Go.Operand.tmp 79, Go.Operand.tmp 81], argTypes := #[30, 39, 2, 3] }, type := 30, pos := "law.go:52", after := #[{ on := 0, ground := Go.Ground.data }, { on := 3, ground := Go.Ground.data }, { on := 5, ground := Go.Ground.data }, { on := 7, ground := Go.Ground.data }, { on := 3, ground := Go.Ground.chain }], guard := none }) rfl (fun K hK => ?_) (AllReadyH.nil)
      go_simp
      refine (HRF.out _ _ A4.out.ref).mono ?_
      rintro e5 w5 ⟨us5, rfl, hr5, hb5⟩
      have A5 := Lib.hid (A4.out.below hb5)
      have R5 := Lib.hid hr5
      have L5 := Lib.hid (show ZS.length = us5.length by rw [HZL.out, R5.out.1.len])
      clear hb5 hr5
      refine hK.out _ _ ?_ (fun hHeld => ?_)
      · exact ⟨A5.out.r1, A5.out.r2.cell HK1.out, A5.out.r2.cell HK2.out, A5.out.r2.cell HK3.out⟩
      clear hK K
      try simp only [Act.put, List.setIfInBounds_toArray, List.set_cons_zero, List.set_cons_succ]
      refine wpAnyH_ready (rs := [9]) (by kernel_rfl) (by simp) ?_
      refine AllReadyH.cons (o := { dst := none, op := Go.Op.store 30 (Go.Operand.tmp 6) (Go.Operand.tmp 82), type := 0, pos := "law.go:52", after := #[{ on := 8, ground := Go.Ground.data }, { on := 8, ground := Go.Ground.chain }, { on := 0, ground := Go.Ground.phase }, { on := 1, ground := Go.Ground.phase }, { on := 2, ground := Go.Ground.phase }, { on := 3, ground := Go.Ground.phase }, { on := 4, ground := Go.Ground.phase }, { on := 5, ground := Go.Ground.phase }, { on := 6, ground := Go.Ground.phase }, { on := 7, ground := Go.Ground.phase }, { on := 8, ground := Go.Ground.phase }], guard := none }) rfl (fun K hK => ?_) (AllReadyH.nil)
      refine wp_store_vrow 30 (.tmp 6) (.tmp 82) rfl rfl rfl A5.out.r3 R5.out.size L5.out R5.out.one ?_
      refine hK.out _ _ ?_ (fun hHeld => ?_)
      · exact ⟨(A5.out.kept _).1, (A5.out.kept _).2.cell HK1.out, (A5.out.kept _).2.cell HK2.out, (A5.out.kept _).2.cell HK3.out⟩
      clear hK K
      try simp only [Act.put]
      refine wpAnyH_done (by kernel_rfl) ?_ _
      go_wp2_with fail
      refine bodyPost_ret (v := .agg us5.toArray) ?_ rfl ⟨us5, _, rfl, (A5.out.stored R5.out).1, (A5.out.stored R5.out).2.1, (A5.out.stored R5.out).2.2.2, HFR.out⟩
      exact results_cell_row Try.results8 _ _ G3 30 us5.toArray (0, 0) _ rfl (A5.out.stored R5.out).2.2.1 Try.underlying30 rfl (by rw [List.size_toArray]; exact R5.out.size)
theorem do_any (g n : Nat) (m : Option Nat) (us : List Value) (S : Bs) (a : AcP) (b : Value) (w wr : World) (ho : Owned w wr 7 g m S) (hr : RefV wr 7 us S) (hS : Ok n S) (hn : n ≤ 500) (ha : a.ok) (hb : Byt w w.heap.size b a.ids) :
    Calls Try.prog 8 #[.pointer (some ⟨g, 0, none⟩), .agg us.toArray, .agg (acC a b).toArray] wr (DoOut w wr g m (actF S a)) :=
  (do_any2 g n m us S a b w wr ho hr hS hn ha hb).mono fun _ _ ⟨us', m', h1, h2, h3, h4, _⟩ => ⟨us', m', h1, h2, h3, h4⟩
end Go.Proofs.Ytfhpodeppmnopaa
