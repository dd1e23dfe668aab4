/-
  Texts joined: Ints, HSub, HsLaw. Conditions: those of each.
-/
import Derived.Test.YtpcopimbnbmkmaaDoorL1
import Derived.ProofKit
import Derived.OpenShut
import Derived.Test.YtpcopimbnbmkmaaDoorL24
import Derived.Test.YtpcopimbnbmkmaaDoorL14
import Derived.Test.YtpcopimbnbmkmaaDoorL20
import Derived.Test.YtpcopimbnbmkmaaDoorL22
/-
  Integers in memory: what it means that a slice value reads as a list of integers; a slice that came in; append. Conditions: none (plain lemmas, over any program).
-/
namespace Go.Proofs.YtpcopimbnbmkmaaDoor
open Go.ChangeShapes Go.WideShapes Go.ChangeAt Go.RowKit

/-- The slice value v holds the integers xs, in a block below B (or is empty). -/
def Ints (k : IntKind) (w : World) (B : Nat) (v : Value) (xs : List Int) : Prop :=
  ∃ A c, v = .slice A xs.length c ∧ xs.length ≤ c ∧ c ≤ maxLen ∧ (A = none → xs = [] ∧ c = 0) ∧
    (xs ≠ [] → ∃ b o, A = some ⟨b, o, none⟩ ∧ b < B ∧ ∀ j u, xs[j]? = some u → w.cell? ⟨b, o + j, none⟩ = some (.int k u))

section
variable {k : IntKind} {w w' : World} {B B' : Nat} {v : Value} {xs : List Int}
theorem Ints.keep (h : Ints k w B v xs) (hk : ∀ b o, b < B → w'.cell? ⟨b, o, none⟩ = w.cell? ⟨b, o, none⟩) : Ints k w' B v xs := by
  obtain ⟨A, c, hv, hl, hm, hA, hx⟩ := h
  refine ⟨A, c, hv, hl, hm, hA, fun hne => ?_⟩
  obtain ⟨b, o, e, hb, hc⟩ := hx hne
  exact ⟨b, o, e, hb, fun j u hu => (hk _ _ hb).trans (hc j u hu)⟩
theorem Ints.below (h : Ints k w B v xs) (hb : Below B w w') : Ints k w' B v xs := h.keep fun _ _ hp => hb.cell (p := ⟨_, _, none⟩) hp
theorem Ints.nil (k : IntKind) (w : World) (B : Nat) : Ints k w B (.slice none 0 0) [] := ⟨none, 0, rfl, Nat.le_refl _, by unfold maxLen; omega, fun _ => ⟨rfl, rfl⟩, fun h => absurd rfl h⟩
theorem Ints.len (h : Ints k w B v xs) : xs.length ≤ maxLen := by
  obtain ⟨A, c, hv, hl, hm, _⟩ := h
  omega
theorem Ints.of_own {base : Nat} {e : TypeId} (h : w.ownsRow base e 1 v xs.length (xs.map (Value.int k))) : Ints k w w.heap.size v xs := by
  rcases h.2 with ⟨rfl, hn⟩ | ⟨g, cap, cur, rfl, _, hg, hnc, hcm, _, _⟩
  · obtain rfl : xs = [] := List.eq_nil_of_length_eq_zero hn
    exact Ints.nil _ _ _
  · refine ⟨some ⟨g, 0, none⟩, cap, rfl, hnc, hcm, (by intro h; cases h), fun hne => ⟨g, 0, rfl, (h.lt g rfl).2, fun j u hu => ?_⟩⟩
    have hc := h.cells (g := g) rfl j (.int k u) (by rw [List.getElem?_map, hu]; rfl)
    have hadd : (⟨g, 0, none⟩ : Addr).add j = ⟨g, 0 + j, none⟩ := by unfold Addr.add; split <;> simp_all
    rw [← hadd]; exact hc
theorem Ints.made (k : IntKind) (w : World) (e : TypeId) (xs : List Int) (l : List Value) (h : l = xs.map (Value.int k)) (hl : xs.length ≤ maxLen) :
    Ints k (w.alloc (.cells l.toArray e)) (w.heap.size + 1) (.slice (some ⟨w.heap.size, 0, none⟩) xs.length xs.length) xs := by
  refine ⟨_, _, rfl, Nat.le_refl _, hl, (by intro h; cases h), fun _ => ⟨_, _, rfl, by omega, fun j u hu => ?_⟩⟩
  rw [Nat.zero_add]
  show (w.alloc (.cells l.toArray e)).cell? ⟨w.heap.size, j, none⟩ = _
  rw [cell_of_row _ w.heap.size j _ _ _ (heap_alloc_new w _), h]
  simp [hu]
/-- The first n of them: 's[:n]'. -/
theorem Ints.first {A : Option Addr} {c : Nat} (h : Ints k w B (.slice A xs.length c) xs) (n : Nat) (hn : n ≤ xs.length) : Ints k w B (.slice A n c) (xs.take n) := by
  obtain ⟨A', c', hv, hl, hm, hA, hx⟩ := h
  injection hv with e1 _ e2
  subst e1 e2
  have hlen : (xs.take n).length = n := by rw [List.length_take]; omega
  refine ⟨A, c, by rw [hlen], by omega, hm, fun h => ?_, fun hne => ?_⟩
  · obtain ⟨rfl, hc⟩ := hA h
    exact ⟨by simp, hc⟩
  · obtain ⟨b, o, e, hb, hc⟩ := hx (by rintro rfl; simp at hne)
    refine ⟨b, o, e, hb, fun j u hu => hc j u ?_⟩
    rw [List.getElem?_take] at hu
    split at hu
    · exact hu
    · cases hu
end

theorem spot_plain {w : World} {a : Addr} {v : Value} (h : w.cell? a = some v) : a = ⟨a.block, a.off, none⟩ := by
  have := World.cell?_spot h
  cases a
  simp_all
theorem add_flat (b o i : Nat) : (⟨b, o, none⟩ : Addr).add i = ⟨b, o + i, none⟩ := by unfold Addr.add; split <;> simp_all

/-- A slice of integers that came in. -/
theorem ints_open {H : Type} {enc : TypeId × Value → H} {P : Program} {w : World} {spare : Nat → Bool} {held : Bool} {fuel : Nat} {t e : TypeId} {v : Value} {k : IntKind} {x : DataW H × List MemPlace}
    (ht : P.underlying t = some (.slice e)) (he : P.underlying e = some (.int k)) (hc : P.cellsOf e = 1) (h : DataW.trod enc P w 0 spare held fuel t [v] = some x) :
    ∃ xs, Ints k w w.heap.size v xs ∧ ∀ n ∈ xs, (Lit.int k n).wf = true := by
  rcases open_ints ht he hc h with ⟨hcs, _⟩ | ⟨a, len, cap, zs, hcs, _, hl, hm, hz, _, hcell, hwf⟩
  · simp only [List.cons.injEq, and_true] at hcs
    subst hcs
    exact ⟨[], Ints.nil _ _ _, by simp⟩
  · simp only [List.cons.injEq, and_true] at hcs
    subst hcs
    have hlz : len ≤ zs.length := by rw [hz]; split <;> omega
    have hlen : (zs.take len).length = len := by simp; omega
    refine ⟨zs.take len, ⟨some a, cap, by rw [hlen], by rw [hlen]; exact hl, hm, (by intro h; cases h), fun hne => ?_⟩, fun n hn => hwf n (List.mem_of_mem_take hn)⟩
    have hpos : 0 < len := by
      rcases Nat.eq_zero_or_pos len with h0 | h0
      · rw [h0] at hne; simp at hne
      · exact h0
    have h0 := hcell 0 (by omega)
    have hadd0 : a.add 0 = a := by unfold Addr.add; simp
    rw [hadd0] at h0
    have hsp := spot_plain h0
    refine ⟨a.block, a.off, by rw [← hsp], World.block_lt_of_cell? _ _ h0, fun j u hu => ?_⟩
    have hj : j < len := by
      have := (List.getElem?_eq_some_iff.1 hu).1
      omega
    have hcj := hcell j (by omega)
    have hadd : a.add j = ⟨a.block, a.off + j, none⟩ := (congrArg (fun q : Addr => q.add j) hsp).trans (add_flat _ _ _)
    rw [hadd] at hcj
    rw [hcj]
    have hzj : zs.getD j 0 = zs[j]'(by omega) := by rw [List.getD, List.getElem?_eq_getElem (show j < zs.length by omega)]; rfl
    rw [List.getElem?_take, if_pos hj, List.getElem?_eq_getElem (by omega)] at hu
    simp at hu
    subst hu
    rw [hzj]

/-- append of integers onto a row of the call's own: the source reads as integers (it may be nil or empty). -/
theorem run_append_ints {P : Program} (w : World) (base : Nat) (t ty e : TypeId) (i : TypeInfo) (k : IntKind) (bytes : Nat) (ht : P.underlying t = some (.slice e)) (hi : P.info? e = some i)
    (hz : i.zero = some (.int k 0)) (hsize : i.size = 1) (hby : i.bytes = bytes) (v : Value) (n : Nat) (xs : List Value) (hown : w.ownsRow base e 1 v n xs)
    (B : Nat) (x : Value) (ys : List Int) (hr : Ints k w B x ys) (hn : n + ys.length ≤ maxLen) (hb : (n + ys.length) * bytes ≤ 140737488355328) (hbase : base ≤ w.heap.size) :
    ∃ v' w', (Builtin.append_ #[t, t] ty #[v, x]).run P w = .ok v' w' ∧ w'.ownsRow base e 1 v' (n + ys.length) (xs ++ ys.map (Value.int k)) ∧ w.grownBy w' v.ownBlock ∧
      (v'.ownBlock = v.ownBlock ∨ v'.ownBlock = some w.heap.size) := by
  obtain ⟨A, c, rfl, hl, hm, hA, hx⟩ := hr
  rcases A with _ | ad
  · obtain ⟨rfl, rfl⟩ := hA rfl
    refine ⟨v, w, ?_, by simpa using hown, ⟨rfl, rfl, rfl, Nat.le_refl _, fun _ _ _ => rfl⟩, .inl rfl⟩
    rcases hown.2 with ⟨rfl, rfl⟩ | ⟨g, cap, cur, rfl, _, _, hnc, _⟩
    · simp [Builtin.append_, run_underlying ht, sizeOf, typeInfo, hi, Builtin.lenOf, Builtin.firstCells]
    · simp [Builtin.append_, run_underlying ht, sizeOf, typeInfo, hi, Builtin.lenOf, Builtin.firstCells, hnc, storeCells]
  · have hcells : ∀ j u, (ys.map (Value.int k))[j]? = some u → w.cell? (ad.add j) = some u := by
      intro j u hu
      rw [List.getElem?_map] at hu
      cases hy : ys[j]? with
      | none => rw [hy] at hu; cases hu
      | some q =>
        rw [hy] at hu
        injection hu with hu
        subst hu
        have hne : ys ≠ [] := by rintro rfl; simp at hy
        obtain ⟨b, o, hAe, _, hc⟩ := hx hne
        injection hAe with hAe
        subst hAe
        rw [add_flat]; exact hc j q hy
    obtain ⟨v', w', hrun, h2, h3, _, h5⟩ := run_append_own_at (P := P) w base t ty e i (.int k 0) 1 bytes ht hi hz hsize hby rfl (by decide) v n xs hown ad ys.length c (ys.map (Value.int k))
      (by simp) hcells (by intro u hu; obtain ⟨q, _, rfl⟩ := List.mem_map.1 hu; rfl) hn hb hbase
    exact ⟨v', w', hrun, h2, h3, h5⟩

/-- At the operation. -/
theorem wpList_append_ints {P : Program} {w : World} {ops : Array Oper} {rest : List Oper} {o : Oper} {a : Act} {Q : Exit → Act → World → Prop} (hgd : o.guard = none) (s x : Operand) (t : TypeId)
    (ho : o.op = .call { callee := .builtin .append, args := #[s, x], argTypes := #[t, t] })
    (base : Nat) (e : TypeId) (i : TypeInfo) (k : IntKind) (bytes : Nat) (ht : P.underlying t = some (.slice e)) (hi : P.info? e = some i)
    (hz : i.zero = some (.int k 0)) (hsize : i.size = 1) (hby : i.bytes = bytes)
    (v : Value) (n : Nat) (xs : List Value) (hs : a.eval s = v) (hown : w.ownsRow base e 1 v n xs)
    (B : Nat) (u : Value) (ys : List Int) (hx : a.eval x = u) (hr : Ints k w B u ys) (hn : n + ys.length ≤ maxLen) (hb : (n + ys.length) * bytes ≤ 140737488355328) (hbase : base ≤ w.heap.size)
    (h : ∀ v' w', w'.ownsRow base e 1 v' (n + ys.length) (xs ++ ys.map (Value.int k)) → w.grownBy w' v.ownBlock → (v'.ownBlock = v.ownBlock ∨ v'.ownBlock = some w.heap.size) → wpList P ops Q rest (a.put o.dst v') w') :
    wpList P ops Q (o :: rest) a w := by
  refine wpList_plain hgd fun K hK => ?_
  obtain ⟨v', w', hrun, h2, h3, h4⟩ := run_append_ints (P := P) w base t o.type e i k bytes ht hi hz hsize hby v n xs hown B u ys hr hn hb hbase
  unfold Oper.wp execOp
  simp only [ho, resolve, invoke, builtin, Sem.run_bind, Sem.run_pure, Result.andThen_ok, List.map_toArray, List.map_cons, List.map_nil, hs, hx, hrun]
  exact hK _ _ (h v' w' h2 h3 h4)
end Go.Proofs.YtpcopimbnbmkmaaDoor

/-
  The laws' short, and a part of a slice of bytes. Conditions: none.
-/
namespace Go.Proofs.YtpcopimbnbmkmaaDoor
open Go.RowKit

theorem Byt.sub {w : World} {B c lo hi n : Nat} {A : Option Addr} {xs : List UInt8} (h : Byt w B (.slice A n c) xs) (h1 : lo ≤ hi) (h2 : hi ≤ xs.length) :
    Byt w B (.slice (if c = lo then A else A.map (fun x => x.add lo)) (hi - lo) (c - lo)) ((xs.drop lo).take (hi - lo)) := by
  obtain ⟨A', c', e, g1, g2, g3, g4⟩ := h
  injection e with e1 e2 e3
  subst e1 e2 e3
  have hl : ((xs.drop lo).take (hi - lo)).length = hi - lo := by rw [List.length_take, List.length_drop]; omega
  refine ⟨_, _, by rw [hl], by omega, by omega, fun hn => ?_, fun hne => ?_⟩
  · split at hn
    · obtain ⟨rfl, hc0⟩ := g3 hn
      exact ⟨by simp, by omega⟩
    · cases A with
      | none => obtain ⟨rfl, hc0⟩ := g3 rfl; exact ⟨by simp, by omega⟩
      | some a => exact absurd hn (by simp)
  · obtain ⟨b, o, rfl, hb, hcell⟩ := g4 (fun e => by rw [e] at hne; simp at hne)
    have hlt : lo < hi := by
      rcases Nat.lt_or_ge lo hi with h | h
      · exact h
      · have : hi - lo = 0 := by omega
        rw [this] at hne
        simp at hne
    have hadd : (⟨b, o, none⟩ : Addr).add lo = ⟨b, o + lo, none⟩ := by
      unfold Addr.add
      split <;> simp_all
    refine ⟨b, o + lo, by rw [if_neg (by omega)]; simp [hadd], hb, fun j u hu => ?_⟩
    rw [Nat.add_assoc]
    refine hcell _ u ?_
    rw [List.getElem?_take] at hu
    split at hu
    · rw [← hu, List.getElem?_drop]
    · exact absurd hu (by simp)
theorem run_sub (A : Option Addr) (n c lo hi : Nat) (h1 : lo ≤ hi) (h2 : hi ≤ c) (W : World) :
    (Instr.slice 22 (.slice A n c) (some (.int .i64 (lo : Int))) (some (.int .i64 (hi : Int))) none).run Tryd.prog W = .ok (.slice (if c = lo then A else A.map (fun x => x.add lo)) (hi - lo) (c - lo)) W := by
  obtain ⟨i0, hi0, hz0, hz1, hz2⟩ := info_parts info_u8
  have he : Tryd.prog.elem 22 = 5 := by kernel_rfl
  have ht : Tryd.prog.underlying 22 = some (.slice (Tryd.prog.elem 22)) := by rw [he]; exact slice_u8
  rw [run_slice_lh (ht := ht) (h0 := by omega) (h1 := by omega) (h2 := by omega), he]
  simp [sizeOf, typeInfo, hi0, hz1, sliced, go_sem]

set_option maxRecDepth 100000 in
set_option maxHeartbeats 400000 in
theorem hshort_any (B : Nat) (x : Value) (xs : List UInt8) (w : World) (hx : Byt w B x xs) :
    Calls Tryd.prog 6 #[x] w fun e w' => (∃ y, e = .returned y ∧ Byt w B y (xs.take 600)) ∧ w = w' := by
  have hl := hx.len
  obtain ⟨A, c, rfl⟩ := hx.form
  obtain ⟨hc1, hc2⟩ := hx.cap
  unfold maxLen at hl
  by_cases h : 600 < xs.length
  · have ht : Byt w B (.slice A 600 c) (xs.take 600) := by
      have h2 := hx.sub (lo := 0) (hi := 600) (by omega) (by omega)
      rw [List.drop_zero] at h2
      obtain ⟨A', c', e, g1, g2, g3, g4⟩ := hx
      injection e with e1 e2 e3
      subst e1 e3
      have hl6 : (xs.take 600).length = 600 := by rw [List.length_take]; omega
      refine ⟨A, c, by rw [hl6], by omega, g2, fun h => absurd (g3 h).2 (by omega), fun hne => ?_⟩
      obtain ⟨b, o, e1, hb, hc⟩ := g4 (fun e => by rw [e] at h; simp at h)
      refine ⟨b, o, e1, hb, fun j u hu => hc j u ?_⟩
      rw [List.getElem?_take] at hu
      split at hu
      · exact hu
      · exact absurd hu (by simp)
    have HT := Lib.hid ht
    have he : c = 0 → False := fun h0 => by omega
    have hd : decide ((600 : Int) < (xs.length : Int)) = true := decide_eq_true (by omega)
    clear hx ht
    go_enter Tryd.func6, Tryd.ntmps6
    go_wp2
    go_ret
    exact ⟨⟨_, rfl, HT.out⟩, rfl⟩
  · have ht : xs.take 600 = xs := List.take_of_length_le (by omega)
    have HT := Lib.hid ht
    have HX := Lib.hid hx
    have hd : decide ((600 : Int) < (xs.length : Int)) = false := decide_eq_false (by omega)
    clear hx ht
    go_enter Tryd.func6, Tryd.ntmps6
    go_wp2
    go_ret
    exact ⟨⟨_, rfl, by rw [HT.out]; exact HX.out⟩, rfl⟩
end Go.Proofs.YtpcopimbnbmkmaaDoor

/-
  The law on the three digests. Conditions: the roots and the tables are laid.
-/
namespace Go.Proofs.YtpcopimbnbmkmaaDoor
open Go.RowKit

set_option maxRecDepth 100000 in
set_option maxHeartbeats 12800000 in
theorem sums_law (B : Nat) (x : Value) (xs : List UInt8) (w : World) (hr : Roots w) (ht : Rm.TabsIs w) (hx : Byt w B x xs) (hB : B ≤ w.heap.size) :
    Calls Tryd.prog 3 #[x] w fun e w' => e = .returned (.bool true) ∧ Below w.heap.size w w' := by
  obtain ⟨A, c, hxf⟩ := hx.form
  subst hxf
  have HX := Lib.hid hx
  have HA := Lib.hid (hawake_any w hr)
  have HR := Lib.hid hr
  have HT := Lib.hid ht
  clear hx hr ht
  go_enter Tryd.func3, Tryd.ntmps3
  go_wp2_with fail
  refine HA.out.mono ?_
  rintro e w1 ⟨rfl, hb1⟩
  have hs1 := hb1.size
  have S1 := Lib.hid (hshort_any B _ xs w1 (HX.out.below (hb1.mono hB)))
  have HB1 := Lib.hid hb1
  clear hb1
  go_wp2_with fail
  refine S1.out.mono ?_
  rintro e w1' ⟨⟨y, rfl, hy⟩, rfl⟩
  obtain ⟨A1, c1, rfl⟩ := hy.form
  obtain ⟨ys, hys⟩ : ∃ ys, ys = xs.take 600 := ⟨_, rfl⟩
  have hyl : ys.length ≤ 600 := by rw [hys, List.length_take]; omega
  rw [← hys] at hy ⊢
  have HY := Lib.hid hy
  have SP := Lib.hid (spare_any B _ ys w1 hy (by omega) (by omega))
  clear hy hys S1 HX HA
  go_wp2_with fail
  refine SP.out.mono ?_
  rintro e w2 ⟨rfl, hrow, hb2⟩
  have hs2 := hb2.size
  have hin := hrow.byt (n := ys.length) (c := ys.length + 9) (by rw [tinted_length]; omega) (by omega) (by unfold maxLen; omega)
  have htk : (tinted ys).take ys.length = ys := by unfold tinted; rw [List.take_left']; rfl
  rw [htk] at hin
  have I2 := Lib.hid hin
  have HROW := Lib.hid hrow
  have C2 := Lib.hid (HB1.out.trans (hb2.mono hs1))
  have U2 := Lib.hid (Below.refl w2.heap.size w2)
  have Y2 := Lib.hid (HY.out.below (hb2.mono (by omega)))
  have hG : w1.heap.size < w2.heap.size := hrow.lt
  obtain ⟨D1, hD1⟩ : ∃ D, D = sha256 ys := ⟨_, rfl⟩
  obtain ⟨D2, hD2⟩ : ∃ D, D = S5.sha512 ys := ⟨_, rfl⟩
  obtain ⟨D3, hD3⟩ : ∃ D, D = Rm.ripemd ys := ⟨_, rfl⟩
  have l1 : D1.length = 32 := by rw [hD1, sha256_length]
  have l2 : D2.length = 64 := by rw [hD2, S5.sha512_length]
  have l3 : D3.length = 20 := by rw [hD3, Rm.ripemd_length]
  have heq1 := fun W => eq_32 D1 D1 l1 l1 W
  have heq2 := fun W => eq_64 D2 D2 l2 l2 W
  have heq3 := fun W => eq_20 D3 D3 l3 l3 W
  simp only [beq_self_eq_true] at heq1 heq2 heq3
  obtain ⟨V1, hV1⟩ : ∃ V : Array Value, Value.agg V = digV D1 := ⟨_, rfl⟩
  obtain ⟨V2, hV2⟩ : ∃ V : Array Value, Value.agg V = digV D2 := ⟨_, rfl⟩
  obtain ⟨V3, hV3⟩ : ∃ V : Array Value, Value.agg V = digV D3 := ⟨_, rfl⟩
  simp only [← hV1] at heq1
  simp only [← hV2] at heq2
  simp only [← hV3] at heq3
  have HV1 := Lib.hid (show digV (sha256 ys) = .agg V1 by rw [hV1, hD1])
  have HV2 := Lib.hid (show digV (S5.sha512 ys) = .agg V2 by rw [hV2, hD2])
  have HV3 := Lib.hid (show digV (Rm.ripemd ys) = .agg V3 by rw [hV3, hD3])
  clear hrow hin htk hb2 SP hD1 hD2 hD3 hV1 hV2 hV3 l1 l2 l3 HY
  have P2 := sum256_any _ _ ys w2 I2.out (Nat.le_refl _) (by omega) (HR.out.below C2.out)
  rw [HV1.out] at P2
  have HP2 := Lib.hid P2
  clear P2
  go_wp2_with fail
  refine HP2.out.mono ?_
  rintro e w3 ⟨rfl, hb3⟩
  have hs3 := hb3.size
  have C3 := Lib.hid (C2.out.trans (hb3.mono C2.out.size))
  have U3 := Lib.hid (U2.out.trans (hb3.mono U2.out.size))
  have I3 := Lib.hid (I2.out.below (hb3.mono (by omega)))
  have Y3 := Lib.hid (Y2.out.below (hb3.mono (by omega)))
  clear hb3 HP2 C2 U2 I2 Y2
  have P3 := rsum256_any B _ ys w3 Y3.out (by omega) (by omega)
  rw [HV1.out] at P3
  have HP3 := Lib.hid P3
  clear P3
  go_wp2_with fail
  refine HP3.out.mono ?_
  rintro e w4 ⟨rfl, hb4⟩
  have hs4 := hb4.size
  have C4 := Lib.hid (C3.out.trans (hb4.mono C3.out.size))
  have U4 := Lib.hid (U3.out.trans (hb4.mono U3.out.size))
  have I4 := Lib.hid (I3.out.below (hb4.mono (by omega)))
  have Y4 := Lib.hid (Y3.out.below (hb4.mono (by omega)))
  clear hb4 HP3 C3 U3 I3 Y3
  have P4 := s512_any _ _ ys w4 I4.out (by omega) (by omega) (HR.out.below C4.out)
  rw [HV2.out] at P4
  have HP4 := Lib.hid P4
  clear P4
  go_wp2_with fail
  refine HP4.out.mono ?_
  rintro e w5 ⟨rfl, hb5⟩
  have hs5 := hb5.size
  have C5 := Lib.hid (C4.out.trans (hb5.mono C4.out.size))
  have U5 := Lib.hid (U4.out.trans (hb5.mono U4.out.size))
  have I5 := Lib.hid (I4.out.below (hb5.mono (by omega)))
  have Y5 := Lib.hid (Y4.out.below (hb5.mono (by omega)))
  clear hb5 HP4 C4 U4 I4 Y4
  have P5 := S5.rsum256_any B _ ys w5 Y5.out (by omega) (by omega)
  rw [HV2.out] at P5
  have HP5 := Lib.hid P5
  clear P5
  go_wp2_with fail
  refine HP5.out.mono ?_
  rintro e w6 ⟨rfl, hb6⟩
  have hs6 := hb6.size
  have C6 := Lib.hid (C5.out.trans (hb6.mono C5.out.size))
  have U6 := Lib.hid (U5.out.trans (hb6.mono U5.out.size))
  have I6 := Lib.hid (I5.out.below (hb6.mono (by omega)))
  have Y6 := Lib.hid (Y5.out.below (hb6.mono (by omega)))
  clear hb6 HP5 C5 U5 I5 Y5
  have P6 := Rm.ripemd_any _ _ ys w6 I6.out (by omega) (by omega) (HT.out.below C6.out)
  rw [HV3.out] at P6
  have HP6 := Lib.hid P6
  clear P6
  go_wp2_with fail
  refine HP6.out.mono ?_
  rintro e w7 ⟨rfl, hb7⟩
  have hs7 := hb7.size
  have C7 := Lib.hid (C6.out.trans (hb7.mono C6.out.size))
  have U7 := Lib.hid (U6.out.trans (hb7.mono U6.out.size))
  have I7 := Lib.hid (I6.out.below (hb7.mono (by omega)))
  have Y7 := Lib.hid (Y6.out.below (hb7.mono (by omega)))
  clear hb7 HP6 C6 U6 I6 Y6
  have P7 := Rm.rripemd_any B _ ys w7 Y7.out (by omega) (by omega)
  rw [HV3.out] at P7
  have HP7 := Lib.hid P7
  clear P7
  go_wp2_with fail
  refine HP7.out.mono ?_
  rintro e w8 ⟨rfl, hb8⟩
  have hs8 := hb8.size
  have C8 := Lib.hid (C7.out.trans (hb8.mono C7.out.size))
  have U8 := Lib.hid (U7.out.trans (hb8.mono U7.out.size))
  have I8 := Lib.hid (I7.out.below (hb8.mono (by omega)))
  have Y8 := Lib.hid (Y7.out.below (hb8.mono (by omega)))
  clear hb8 HP7 C7 U7 I7 Y7
  have hrow8 : Row w8 w1.heap.size (tinted ys) := HROW.out.turns (Turns.of_below U8.out (S := fun _ => False)) (fun h => h)
  have hall := hrow8.byt (n := ys.length + 9) (c := ys.length + 9) (by rw [tinted_length]; omega) (by omega) (by unfold maxLen; omega)
  rw [List.take_of_length_le (by rw [tinted_length]; omega)] at hall
  have K := Lib.hid (kept_yes _ B _ _ ys w8 hall Y8.out (by omega))
  clear hrow8 hall
  go_wp2_with fail
  refine K.out.mono ?_
  rintro e w9 ⟨rfl, k, hw9⟩
  have b89 : Below w8.heap.size w8 w9 := by rw [hw9]; exact ⟨rfl, rfl, rfl, Nat.le_refl _, fun _ _ => rfl⟩
  have HFIN := Lib.hid (C8.out.trans (b89.mono C8.out.size))
  clear hw9 b89
  go_wp2_with fail
  go_ret
  exact ⟨rfl, HFIN.out⟩
end Go.Proofs.YtpcopimbnbmkmaaDoor
