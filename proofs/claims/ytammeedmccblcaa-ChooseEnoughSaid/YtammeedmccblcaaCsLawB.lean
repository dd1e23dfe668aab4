/-
  The law's own helper Own: the program's coins and task out of the reference's. Conditions: at most 14 coins.
-/
import Derived.Test.YtammeedmccblcaaCsLawA
namespace Go.Proofs.Ytammeedmccblcaa.Cs
open Go.RowKit

theorem wp_store_vrow {op : Oper} {a : Act} {w : World} {K : Act → World → Prop} {Q : Exit → Act → World → Prop} (ty : TypeId) (x y : Operand) (ho : op.op = .store ty x y)
    {g : Nat} {t : TypeId} {vs us : List Value} (hx : a.eval x = .pointer (some ⟨g, 0, none⟩)) (hy : a.eval y = .agg us.toArray) (h : VRow w g t vs) (hi : (Try.prog.info? ty).map (·.size) = some us.length) (hl : vs.length = us.length) (h1 : us.toArray.all (·.oneCell') = true)
    (hn : K (a.put op.dst undef) (w.setRow g us.toArray)) : op.wp Try.prog a w K Q := by
  unfold Oper.wp execOp
  have hst : (Instr.storeAt ty (.pointer (some ⟨g, 0, none⟩)) (.agg us.toArray)).run Try.prog w = .ok () (w.setRow g us.toArray) := by
    simp only [Instr.storeAt, Instr.sureAddr, Sem.run_bind, Sem.run_pure, Result.andThen_ok]
    exact run_storeVar_row w g t ty _ _ h (by rw [hi]; simp) (by simp [hl]) h1
  simp only [ho, hx, hy, hst, Sem.run_bind, Sem.run_pure, Result.andThen_ok]
  exact hn
theorem arr_one {l : List Value} (h : ∀ v ∈ l, v.oneCell' = true) : l.toArray.all (·.oneCell') = true := Array.all_eq_true_iff_forall_mem.2 (fun v hv => h v (by simpa using hv))
theorem yieldsIf_build {ops : Array Oper} {S : World → Prop} {op : Oper} {a : Act} (hw : Region.wanted op (yielded ops a.tmps) = true) (ty : TypeId) (parts : Array (Nat × Operand)) (ho : op.op = .build ty parts) (v : Value)
    (hx : ∀ w, (Instr.build ty (parts.map fun p => (p.1, a.eval p.2))).run Try.prog w = .ok v w) : YieldsIf Try.prog ops S op v a :=
  .inl ⟨hw, fun w _ => by
    unfold execOp
    have h := hx w
    simp only [ho, h, Sem.run_bind, Sem.run_pure, Result.andThen_ok]⟩
theorem one_Crow {w : World} {g : Nat} {t : TypeId} {x : Int × Int} (h : VRow w g t [.int .i64 x.1, .int .i64 x.2]) : w.rangeAt g 0 [.int .i64 x.1, .int .i64 x.2] := h.range (fun q v hv => by rw [Nat.zero_add]; exact hv)
set_option maxRecDepth 100000 in
set_option maxHeartbeats 6400000 in
theorem own_any (B : Nat) (v : Value) (l : List (Int × Int)) (need extra rate tries seed : Int) (w : World) (hX : CrR w B v l) (hB : B ≤ w.heap.size) (hl : l.length ≤ 14) :
    Calls Try.prog 9 #[v, .agg (tkC need extra rate tries seed).toArray] w fun e w' => ∃ u, e = .returned (.tuple #[u, .agg (tkC need extra rate tries seed).toArray]) ∧ CrR w' w'.heap.size u l ∧ Below w.heap.size w w' := by
  obtain ⟨A, c, rfl, hlc, hcm⟩ := hX.form
  obtain ⟨nX, hnX⟩ : ∃ z, z = l.length := ⟨_, rfl⟩
  rw [← hnX] at hX hl ⊢
  have hz : ∀ W, (zeroValue 30).run Try.prog W = .ok (.agg #[.int .i64 0, .int .i64 0, .int .i64 0, .int .i64 0, .int .u64 0]) W := fun W => by kernel_rfl
  have hzc : ∀ W, (zeroValue 37).run Try.prog W = .ok (.agg #[.int .i64 0, .int .i64 0]) W := fun W => by kernel_rfl
  have HX := Lib.hid hX
  have HB := Lib.hid hB
  have HNX := Lib.hid hnX
  have HL := Lib.hid hl
  clear hX hB hnX
  unfold tkC
  go_enter Try.func9, Try.ntmps9
  go_wp2
  obtain ⟨TK, hTK⟩ : ∃ z, z = [Value.int .i64 need, .int .i64 extra, .int .i64 rate, .int .i64 tries, .int .u64 seed] := ⟨_, rfl⟩
  obtain ⟨TZ, hTZ⟩ : ∃ z, z = [Value.int .i64 0, .int .i64 0, .int .i64 0, .int .i64 0, .int .u64 0] := ⟨_, rfl⟩
  obtain ⟨W1, hW1⟩ : ∃ z, z = w.alloc (.cells TK.toArray 25) := ⟨_, rfl⟩
  obtain ⟨W2, hW2⟩ : ∃ z, z = W1.alloc (.cells TZ.toArray 30) := ⟨_, rfl⟩
  have hs1 : W1.heap.size = w.heap.size + 1 := by rw [hW1]; simp
  have hs2 : W2.heap.size = w.heap.size + 2 := by rw [hW2]; simp [hs1]
  have hT : VRow W2 w.heap.size 25 TK := by
    rw [hW2, hW1]
    exact (VRow.new w _ TK).below ((Below.refl _ _).alloc (Nat.le_refl _) _) (by simp)
  have hR : VRow W2 (w.heap.size + 1) 30 TZ := by rw [hW2, ← hs1]; exact VRow.new W1 _ TZ
  have hbW : Below w.heap.size w W2 := by rw [hW2, hW1]; exact ((Below.refl _ _).alloc (Nat.le_refl _) _).alloc (by simp) _
  change Code.wp _ _ _ _ ((w.alloc (.cells [Value.int .i64 need, .int .i64 extra, .int .i64 rate, .int .i64 tries, .int .u64 seed].toArray 25)).alloc (.cells [Value.int .i64 0, .int .i64 0, .int .i64 0, .int .i64 0, .int .u64 0].toArray 30))
  rw [← hTK, ← hTZ, ← hW1, ← hW2]
  obtain ⟨GT, hGT⟩ : ∃ z, z = w.heap.size := ⟨_, rfl⟩
  obtain ⟨GR, hGR⟩ : ∃ z, z = w.heap.size + 1 := ⟨_, rfl⟩
  rw [← hGT] at hT
  rw [← hGR] at hR
  rw [← hGR, ← hGT]
  have HT := Lib.hid hT
  have HR := Lib.hid hR
  have HBW := Lib.hid hbW
  have GLT := Lib.hid (show GT = w.heap.size ∧ GR = w.heap.size + 1 ∧ w.heap.size + 2 = W2.heap.size by omega)
  have HTK := Lib.hid hTK
  have HTZ := Lib.hid hTZ
  clear hT hR hbW hGT hGR hs1 hs2 hW1 hW2 hTK hTZ
  go_loopw [6, 8, 11] (fun s q i wr => ∃ (j : Nat) (u : Value), u = s ∧ j ≤ nX ∧ i = .int .i64 (j : Int) ∧ Hid (wr.ownsRow (GR + 1) 35 2 u j ((l.take j).flatMap crC)) ∧ Hid (VRow wr GT 25 TK) ∧ Hid (VRow wr GR 30 TZ) ∧ Hid (Below w.heap.size w wr)) (fun _ _ i _ => nX - (intOf i).toNat)
  case atStart => exact ⟨0, _, rfl, Nat.zero_le _, rfl, Lib.hid (World.ownsRow_nil _ _ _ _), HT, HR, HBW⟩
  case round =>
    obtain ⟨j, u, hu, hj, rfl, hO, hT, hR, hBW⟩ := hrel
    subst hu
    obtain ⟨w3, rfl⟩ : ∃ z : World, z = wr := ⟨_, rfl⟩
    have hl := HL.out
    obtain ⟨Au, cu, hform⟩ := own_form hO.out
    subst hform
    by_cases hlt : j < nX
    · as_aux_lemma =>
      have dj : decide ((j : Int) < (nX : Int)) = true := decide_eq_true (by omega)
      obtain ⟨x, hx⟩ : ∃ x, l[j]? = some x := ⟨_, List.getElem?_eq_getElem (by rw [← HNX.out]; exact hlt)⟩
      have hXw : CrR w3 B (.slice A nX c) l := by have := HX.out; exact this.below (hBW.out.mono HB.out)
      obtain ⟨b', o', c', ef, _, _, hbl, hc0, hc1⟩ := hXw.at hx
      injection ef with ef1 ef2 ef3
      subst ef1
      clear ef2 ef3
      have hnx : (l.take (j + 1)).flatMap crC = (l.take j).flatMap crC ++ [.int .i64 x.1, .int .i64 x.2] := by rw [List.take_add_one, hx, List.flatMap_append]; rfl
      have HNXT := Lib.hid hnx
      have b7 : Below w3.heap.size w3 ((w3.alloc (.cells #[Value.int .i64 x.1, .int .i64 x.2] 37)).alloc (.cells #[Value.int .i64 x.1, .int .i64 x.2] 35)) := ((Below.refl _ _).alloc (Nat.le_refl _) _).alloc (by simp) _
      have O7 := Lib.hid ((hO.out.alloc (.cells #[Value.int .i64 x.1, .int .i64 x.2] 37)).alloc (.cells #[Value.int .i64 x.1, .int .i64 x.2] 35))
      have R7 := Lib.hid (show ((w3.alloc (.cells #[Value.int .i64 x.1, .int .i64 x.2] 37)).alloc (.cells #[Value.int .i64 x.1, .int .i64 x.2] 35)).rangeAt (w3.heap.size + 1) 0 [Value.int .i64 x.1, .int .i64 x.2] by
        have q := one_Crow (VRow.new (w3.alloc (.cells #[Value.int .i64 x.1, .int .i64 x.2] 37)) 35 [Value.int .i64 x.1, .int .i64 x.2])
        rw [show (w3.alloc (.cells #[Value.int .i64 x.1, .int .i64 x.2] 37)).heap.size = w3.heap.size + 1 by simp] at q
        exact q)
      have T7 := Lib.hid (hT.out.below b7 hT.out.lt)
      have Q7 := Lib.hid (hR.out.below b7 hR.out.lt)
      have B7 := Lib.hid (hBW.out.trans (b7.mono hBW.out.size))
      have G7 := Lib.hid (show GR + 1 ≤ ((w3.alloc (.cells #[Value.int .i64 x.1, .int .i64 x.2] 37)).alloc (.cells #[Value.int .i64 x.1, .int .i64 x.2] 35)).heap.size by have := Q7.out.lt; omega)
      have K7 := Lib.hid (show ∀ v ∈ [Value.int .i64 x.1, .int .i64 x.2], v.oneCell' = true from fun v hv => by simp only [List.mem_cons, List.not_mem_nil, or_false] at hv; rcases hv with rfl | rfl <;> rfl)
      have M7 := Lib.hid (show (j + 1) * 16 ≤ 140737488355328 by omega)
      have N7 := Lib.hid (show j + 1 ≤ maxLen by unfold maxLen; omega)
      clear hx hnx hXw b7 hl hO hBW hT hR
      go_upto_region 5 with fail
      go_wp2_with (first
        | (at_builtin; refine wpList_append_row slt_Coin rfl (.tmp 15) (.tmp 21) rfl (GR + 1) _ _ _ rfl O7.out _ 1 [.int .i64 x.1, .int .i64 x.2] rfl rfl R7.out K7.out M7.out N7.out G7.out ?_; intro v1 w8 hown1 hg1 ho1; obtain ⟨A1, c1, rfl⟩ := own_form hown1))
      have hl := HL.out
      have gl := GLT.out
      refine ⟨⟨j + 1, _, rfl, hlt, by first | rfl | exact next (by omega), Lib.hid ?_, Lib.hid (vrow_grown T7.out O7.out hg1 (by omega)), Lib.hid (vrow_grown Q7.out O7.out hg1 (by omega)), Lib.hid (B7.out.grown hg1 B7.out.size (fun q hq => by have := (O7.out.lt q hq).1; omega))⟩, by first | exact meas hlt (by omega) | (show nX - ((j : Int) + 1).toNat < nX - (j : Int).toNat; omega)⟩
      rw [HNXT.out]
      exact hown1
    · as_aux_lemma =>
      have dj : decide ((j : Int) < (nX : Int)) = false := decide_eq_false (by omega)
      have hjn : j = l.length := by rw [← HNX.out]; omega
      have hO2 : w3.ownsRow (GR + 1) 35 2 (.slice Au j cu) l.length (l.flatMap crC) := by
        have q := hO.out
        rw [hjn, List.take_length] at q
        rw [hjn]
        exact q
      have HO2 := Lib.hid hO2
      have t0 : w3.cell? ⟨GT, 0, none⟩ = some (.int .i64 need) := hT.out.cell (by rw [HTK.out]; rfl)
      have t1 : w3.cell? ⟨GT, 1, none⟩ = some (.int .i64 extra) := hT.out.cell (by rw [HTK.out]; rfl)
      have t2 : w3.cell? ⟨GT, 2, none⟩ = some (.int .i64 rate) := hT.out.cell (by rw [HTK.out]; rfl)
      have t3 : w3.cell? ⟨GT, 3, none⟩ = some (.int .i64 tries) := hT.out.cell (by rw [HTK.out]; rfl)
      have t4 : w3.cell? ⟨GT, 4, none⟩ = some (.int .u64 seed) := hT.out.cell (by rw [HTK.out]; rfl)
      clear hO2 hjn
      obtain ⟨UU, hUU⟩ : ∃ z, z = [Value.int .i64 need, .int .i64 extra, .int .i64 rate, .int .i64 tries, .int .u64 seed] := ⟨_, rfl⟩
      have HUU := Lib.hid hUU
      have RU := Lib.hid (show VRow w3.drew GR 30 TZ from hR.out)
      have U1 := Lib.hid (show UU.toArray.all (·.oneCell') = true from arr_one (fun v hv => by rw [hUU] at hv; simp only [List.mem_cons, List.not_mem_nil, or_false] at hv; rcases hv with rfl | rfl | rfl | rfl | rfl <;> rfl))
      have UZ := Lib.hid (show (Try.prog.info? 30).map (·.size) = some UU.length by rw [hUU]; rfl)
      have UL := Lib.hid (show TZ.length = UU.length by rw [hUU, HTZ.out]; rfl)
      have bU : Below GR w3.drew (w3.drew.setRow GR UU.toArray) := below_setRow (Below.refl _ w3.drew) (Nat.le_refl _) _
      have hGT : GT < GR := by have := GLT.out; omega
      have KU : ∀ q v, w3.cell? ⟨GT, q, none⟩ = some v → (w3.drew.setRow GR UU.toArray).cell? ⟨GT, q, none⟩ = some v := fun q v h => (bU.cell (p := ⟨GT, q, none⟩) hGT).trans h
      have HK5 := Lib.hid (And.intro (KU _ _ t0) (And.intro (KU _ _ t1) (And.intro (KU _ _ t2) (And.intro (KU _ _ t3) (KU _ _ t4)))))
      have HT5 := Lib.hid (And.intro t0 (And.intro t1 (And.intro t2 (And.intro t3 t4))))
      clear hUU t0 t1 t2 t3 t4 KU
      go_wp2_with fail
      refine wp_region_held_drew (S := (fun w' => w'.cell? ⟨GT, 0, none⟩ = some (.int .i64 need) ∧ w'.cell? ⟨GT, 1, none⟩ = some (.int .i64 extra) ∧ w'.cell? ⟨GT, 2, none⟩ = some (.int .i64 rate) ∧ w'.cell? ⟨GT, 3, none⟩ = some (.int .i64 tries) ∧ w'.cell? ⟨GT, 4, none⟩ = some (.int .u64 seed))) (by kernel_rfl) ?_ (fun hHeld => ?_)
      · exact HT5.out
      refine wpAnyH_take (i := 0) (oi := { dst := some 24, op := Go.Op.move (Go.Operand.tmp 6), type := 29, pos := "law.go:36", after := #[], guard := none }) (v := ?zv0) rfl (by kernel_rfl) (by kernel_rfl) (by kernel_rfl) (fun _ _ _ h => h) (Or.inl ⟨by rfl, ?zy0⟩) (by assumption) ?zr0
      case zy0 => (intro w hSw; (try dsimp only at hSw); go_simp; try (with_reducible rfl))
      case zr0 =>
      try simp only [Act.put, List.setIfInBounds_toArray, List.set_cons_zero, List.set_cons_succ]
      refine wpAnyH_take (i := 1) (oi := { dst := some 25, op := Go.Op.fieldAddr 25 (Go.Operand.tmp 3) 0, type := 0, pos := "law.go:36", after := #[{ on := 12, ground := Go.Ground.gcOnly Go.Departure.lateStores }], guard := none }) (v := ?zv1) rfl (by kernel_rfl) (by kernel_rfl) (by kernel_rfl) (fun _ _ _ h => h) (Or.inl ⟨by rfl, ?zy1⟩) (by assumption) ?zr1
      case zy1 => (intro w hSw; (try dsimp only at hSw); go_simp; try (with_reducible rfl))
      case zr1 =>
      try simp only [Act.put, List.setIfInBounds_toArray, List.set_cons_zero, List.set_cons_succ]
      refine wpAnyH_take (i := 2) (oi := { dst := some 26, op := Go.Op.load 2 (Go.Operand.tmp 25), type := 2, pos := "law.go:36", after := #[{ on := 1, ground := Go.Ground.data }, { on := 12, ground := Go.Ground.gcOnly Go.Departure.lateStores }], guard := none }) (v := (.int .i64 need)) rfl (by kernel_rfl) (by kernel_rfl) (by kernel_rfl) (fun _ _ _ h => h) (Or.inl ⟨by rfl, ?zy2⟩) (by assumption) ?zr2
      case zy2 => (intro w hSw; (try dsimp only at hSw); go_simp; try (simp [hSw.1]))
      case zr2 =>
      try simp only [Act.put, List.setIfInBounds_toArray, List.set_cons_zero, List.set_cons_succ]
      refine wpAnyH_take (i := 3) (oi := { dst := some 27, op := Go.Op.fieldAddr 25 (Go.Operand.tmp 3) 1, type := 0, pos := "law.go:36", after := #[{ on := 12, ground := Go.Ground.gcOnly Go.Departure.lateStores }], guard := none }) (v := ?zv3) rfl (by kernel_rfl) (by kernel_rfl) (by kernel_rfl) (fun _ _ _ h => h) (Or.inl ⟨by rfl, ?zy3⟩) (by assumption) ?zr3
      case zy3 => (intro w hSw; (try dsimp only at hSw); go_simp; try (with_reducible rfl))
      case zr3 =>
      try simp only [Act.put, List.setIfInBounds_toArray, List.set_cons_zero, List.set_cons_succ]
      refine wpAnyH_take (i := 4) (oi := { dst := some 28, op := Go.Op.load 2 (Go.Operand.tmp 27), type := 2, pos := "law.go:36", after := #[{ on := 3, ground := Go.Ground.data }, { on := 12, ground := Go.Ground.gcOnly Go.Departure.lateStores }], guard := none }) (v := (.int .i64 extra)) rfl (by kernel_rfl) (by kernel_rfl) (by kernel_rfl) (fun _ _ _ h => h) (Or.inl ⟨by rfl, ?zy4⟩) (by assumption) ?zr4
      case zy4 => (intro w hSw; (try dsimp only at hSw); go_simp; try (simp [hSw.2.1]))
      case zr4 =>
      try simp only [Act.put, List.setIfInBounds_toArray, List.set_cons_zero, List.set_cons_succ]
      refine wpAnyH_take (i := 5) (oi := { dst := some 29, op := Go.Op.fieldAddr 25 (Go.Operand.tmp 3) 2, type := 0, pos := "law.go:36", after := #[{ on := 12, ground := Go.Ground.gcOnly Go.Departure.lateStores }], guard := none }) (v := ?zv5) rfl (by kernel_rfl) (by kernel_rfl) (by kernel_rfl) (fun _ _ _ h => h) (Or.inl ⟨by rfl, ?zy5⟩) (by assumption) ?zr5
      case zy5 => (intro w hSw; (try dsimp only at hSw); go_simp; try (with_reducible rfl))
      case zr5 =>
      try simp only [Act.put, List.setIfInBounds_toArray, List.set_cons_zero, List.set_cons_succ]
      refine wpAnyH_take (i := 6) (oi := { dst := some 30, op := Go.Op.load 2 (Go.Operand.tmp 29), type := 2, pos := "law.go:36", after := #[{ on := 5, ground := Go.Ground.data }, { on := 12, ground := Go.Ground.gcOnly Go.Departure.lateStores }], guard := none }) (v := (.int .i64 rate)) rfl (by kernel_rfl) (by kernel_rfl) (by kernel_rfl) (fun _ _ _ h => h) (Or.inl ⟨by rfl, ?zy6⟩) (by assumption) ?zr6
      case zy6 => (intro w hSw; (try dsimp only at hSw); go_simp; try (simp [hSw.2.2.1]))
      case zr6 =>
      try simp only [Act.put, List.setIfInBounds_toArray, List.set_cons_zero, List.set_cons_succ]
      refine wpAnyH_take (i := 7) (oi := { dst := some 31, op := Go.Op.fieldAddr 25 (Go.Operand.tmp 3) 3, type := 0, pos := "law.go:36", after := #[{ on := 12, ground := Go.Ground.gcOnly Go.Departure.lateStores }], guard := none }) (v := ?zv7) rfl (by kernel_rfl) (by kernel_rfl) (by kernel_rfl) (fun _ _ _ h => h) (Or.inl ⟨by rfl, ?zy7⟩) (by assumption) ?zr7
      case zy7 => (intro w hSw; (try dsimp only at hSw); go_simp; try (with_reducible rfl))
      case zr7 =>
      try simp only [Act.put, List.setIfInBounds_toArray, List.set_cons_zero, List.set_cons_succ]
      refine wpAnyH_take (i := 8) (oi := { dst := some 32, op := Go.Op.load 3 (Go.Operand.tmp 31), type := 3, pos := "law.go:36", after := #[{ on := 7, ground := Go.Ground.data }, { on := 12, ground := Go.Ground.gcOnly Go.Departure.lateStores }], guard := none }) (v := (.int .i64 tries)) rfl (by kernel_rfl) (by kernel_rfl) (by kernel_rfl) (fun _ _ _ h => h) (Or.inl ⟨by rfl, ?zy8⟩) (by assumption) ?zr8
      case zy8 => (intro w hSw; (try dsimp only at hSw); go_simp; try (simp [hSw.2.2.2.1]))
      case zr8 =>
      try simp only [Act.put, List.setIfInBounds_toArray, List.set_cons_zero, List.set_cons_succ]
      refine wpAnyH_take (i := 9) (oi := { dst := some 33, op := Go.Op.fieldAddr 25 (Go.Operand.tmp 3) 4, type := 0, pos := "law.go:36", after := #[{ on := 12, ground := Go.Ground.gcOnly Go.Departure.lateStores }], guard := none }) (v := ?zv9) rfl (by kernel_rfl) (by kernel_rfl) (by kernel_rfl) (fun _ _ _ h => h) (Or.inl ⟨by rfl, ?zy9⟩) (by assumption) ?zr9
      case zy9 => (intro w hSw; (try dsimp only at hSw); go_simp; try (with_reducible rfl))
      case zr9 =>
      try simp only [Act.put, List.setIfInBounds_toArray, List.set_cons_zero, List.set_cons_succ]
      refine wpAnyH_take (i := 10) (oi := { dst := some 34, op := Go.Op.load 23 (Go.Operand.tmp 33), type := 23, pos := "law.go:36", after := #[{ on := 9, ground := Go.Ground.data }, { on := 12, ground := Go.Ground.gcOnly Go.Departure.lateStores }], guard := none }) (v := (.int .u64 seed)) rfl (by kernel_rfl) (by kernel_rfl) (by kernel_rfl) (fun _ _ _ h => h) (Or.inl ⟨by rfl, ?zy10⟩) (by assumption) ?zr10
      case zy10 => (intro w hSw; (try dsimp only at hSw); go_simp; try (simp [hSw.2.2.2.2]))
      case zr10 =>
      try simp only [Act.put, List.setIfInBounds_toArray, List.set_cons_zero, List.set_cons_succ]
      refine wpAnyH_take (i := 11) (oi := { dst := some 35, op := Go.Op.build 30 #[(0, Go.Operand.tmp 26), (1, Go.Operand.tmp 28), (2, Go.Operand.tmp 30), (3, Go.Operand.tmp 32), (4, Go.Operand.tmp 34)], type := 30, pos := "law.go:36", after := #[{ on := 2, ground := Go.Ground.data }, { on := 4, ground := Go.Ground.data }, { on := 6, ground := Go.Ground.data }, { on := 8, ground := Go.Ground.data }, { on := 10, ground := Go.Ground.data }, { on := 12, ground := Go.Ground.gcOnly Go.Departure.lateStores }], guard := none }) (v := (.agg UU.toArray)) rfl (by kernel_rfl) (by kernel_rfl) (by kernel_rfl) (fun _ _ _ h => h) (yieldsIf_build (by rfl) 30 _ rfl (.agg UU.toArray) (fun W => by (simp only [List.map_toArray, List.map_cons, List.map_nil]; rw [HUU.out]; first | rfl | kernel_rfl))) (by assumption) ?_
      try simp only [Act.put, List.setIfInBounds_toArray, List.set_cons_zero, List.set_cons_succ]
      refine wpAnyH_take (i := 12) (oi := { dst := some 4, op := Go.Op.assign (Go.Operand.tmp 24), type := 29, pos := "law.go:36", after := #[{ on := 0, ground := Go.Ground.data }, { on := 0, ground := Go.Ground.phase }, { on := 1, ground := Go.Ground.textOnly Go.Departure.lateStores }, { on := 2, ground := Go.Ground.textOnly Go.Departure.lateStores }, { on := 3, ground := Go.Ground.textOnly Go.Departure.lateStores }, { on := 4, ground := Go.Ground.textOnly Go.Departure.lateStores }, { on := 5, ground := Go.Ground.textOnly Go.Departure.lateStores }, { on := 6, ground := Go.Ground.textOnly Go.Departure.lateStores }, { on := 7, ground := Go.Ground.textOnly Go.Departure.lateStores }, { on := 8, ground := Go.Ground.textOnly Go.Departure.lateStores }, { on := 9, ground := Go.Ground.textOnly Go.Departure.lateStores }, { on := 10, ground := Go.Ground.textOnly Go.Departure.lateStores }, { on := 11, ground := Go.Ground.textOnly Go.Departure.lateStores }], guard := none }) (v := ?zv12) rfl (by kernel_rfl) (by kernel_rfl) (by kernel_rfl) (fun _ _ _ h => h) (Or.inl ⟨by rfl, ?zy12⟩) (by assumption) ?zr12
      case zy12 => (intro w hSw; (try dsimp only at hSw); go_simp; try (with_reducible rfl))
      case zr12 =>
      try simp only [Act.put, List.setIfInBounds_toArray, List.set_cons_zero, List.set_cons_succ]
      refine wpAnyH_ready (rs := [13]) (by kernel_rfl) (by simp) ?_
      refine AllReadyH.cons (o := { dst := none, op := Go.Op.store 30 (Go.Operand.tmp 5) (Go.Operand.tmp 35), type := 0, pos := "law.go:36", after := #[{ on := 11, ground := Go.Ground.data }, { on := 12, ground := Go.Ground.chain }, { on := 0, ground := Go.Ground.phase }, { on := 1, ground := Go.Ground.phase }, { on := 2, ground := Go.Ground.phase }, { on := 3, ground := Go.Ground.phase }, { on := 4, ground := Go.Ground.phase }, { on := 5, ground := Go.Ground.phase }, { on := 6, ground := Go.Ground.phase }, { on := 7, ground := Go.Ground.phase }, { on := 8, ground := Go.Ground.phase }, { on := 9, ground := Go.Ground.phase }, { on := 10, ground := Go.Ground.phase }, { on := 11, ground := Go.Ground.phase }, { on := 12, ground := Go.Ground.phase }], guard := none }) rfl (fun K hK => ?_) (AllReadyH.nil)
      refine wp_store_vrow 30 (.tmp 5) (.tmp 35) rfl (g := GR) (t := 30) (vs := TZ) (us := UU) rfl rfl RU.out UZ.out UL.out U1.out ?_
      refine hK.out _ _ ?_ (fun hHeld => ?_)
      · exact HK5.out
      clear hK K
      try simp only [Act.put]
      refine wpAnyH_done (by kernel_rfl) ?_ _
      go_wp2_with fail
      have hgl := GLT.out
      have hOF := own_turns HO2.out (S := fun q => q = GR) (Turns.setRow (S := fun q => q = GR) (Turns.refl _ _).drew (fun _ => rfl) UU.toArray) (fun k hk q => by have := (HO2.out.lt k hk).1; omega)
      have hRW : VRow (w3.drew.setRow GR UU.toArray) GR 30 UU := RU.out.setRow UU
      refine bodyPost_ret (v := .tuple #[.slice Au j cu, .agg UU.toArray]) (results_tmp_row Try.results9 _ _ GR 30 _ (0, 0) _ _ rfl rfl hRW Try.underlying30 rfl (by rw [UZ.out, List.size_toArray])) rfl ⟨_, by rw [HUU.out], RowR.of_own hOF, below_setRow hBW.out.drew (by omega) _⟩
end Go.Proofs.Ytammeedmccblcaa.Cs
