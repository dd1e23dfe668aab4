/-
  block.subtract: a number less one that is no greater. Conditions: as said.
-/
import Derived.Test.YtgkocmljnoambaaDoorRfTgt
namespace Go.Proofs.YtgkocmljnoambaaDoor
open Go.RowKit Go.Shelf

attribute [local go_sem] Oper.semAt_some

/-- What the rounds of subtract keep: row and borrow. -/
structure SubInv (a b : Nat) (pre : List (Fin 32 × Int)) (xs : List Int) (c : Nat) : Prop where
  len : xs.length = 32
  byte : ∀ z ∈ xs, 0 ≤ z ∧ z ≤ 255
  small : c ≤ 1
  done : Down pre → xs = mixd (a - b) a pre.length ∧ up a pre.length = up (a - b) pre.length + up b pre.length + c
theorem SubInv.start {a b : Nat} (h : b ≤ a) : SubInv a b [] (num a) 0 :=
  ⟨num_length a, num_byte a, by omega, fun _ => ⟨(mixd_zero _ _).symm, by rw [List.length_nil, up_zero, up_zero, up_zero]; omega⟩⟩
theorem SubInv.next {a b : Nat} {pre : List (Fin 32 × Int)} {xs : List Int} {c : Nat} (h : SubInv a b pre xs c) (hl : pre.length < 32) (x : Fin 32 × Int) {z : Int} (hz : xs[x.1.val]? = some z) :
    SubInv a b (pre ++ [x]) (xs.set x.1.val ((-(c : Int) + (z - (dg b x.1.val : Nat))) % 256)) (-((-(c : Int) + (z - (dg b x.1.val : Nat))) / 256)).toNat := by
  have hb := h.byte z (List.mem_of_getElem? hz)
  have hd := dg_lt b x.1.val
  have hc := h.small
  refine ⟨by rw [List.length_set]; exact h.len, set_byte h.byte _ (by omega), by omega, fun hdn => ?_⟩
  obtain ⟨h1, h2⟩ := hdn.init
  obtain ⟨e1, e2⟩ := h.done h1
  have hij : x.1.val + pre.length = 31 := by omega
  have hzz : z = (dg a x.1.val : Nat) := by
    rw [e1, mixd_at _ _ _ (by omega) (by omega)] at hz
    exact (Option.some.inj hz).symm
  obtain ⟨c', hc', hx, hn⟩ := borrow_next e2 hc
  rw [up_mod (a - b) hij, up_mod a hij, up_mod b hij] at hx
  rw [← up_succ, ← up_succ, ← up_succ] at hn
  have hds := dg_lt (a - b) x.1.val
  rw [List.length_append, List.length_cons, List.length_nil, Nat.zero_add]
  subst hzz
  refine ⟨?_, by rw [hn]; congr 1; omega⟩
  rw [e1]
  exact mixd_set _ _ hij (by omega)
set_option maxRecDepth 100000 in
set_option maxHeartbeats 3200000 in
theorem subtract_in (a b : Nat) (w : World) (hba : b ≤ a) :
    CallsIn Fence.wide 3 Tryd.prog 43 #[numV a, numV b] w fun e w' => e = .returned (numV (a - b)) ∧ Below w.heap.size w w' := by
  obtain ⟨n, hn⟩ : ∃ n, n = a - b := ⟨_, rfl⟩
  rw [← hn]
  have HN := Lib.hid hn
  clear hn
  unfold numV
  obtain ⟨W, hW, r1, r2, r3, r4, hc, bA, hs⟩ := boxes5 w 24 3 44 .i64 a b
  have hf2 : Fence.wide.fn 31 := trivial
  have M0 := Lib.hid (show AddMem w b (num a) 0 .i64 24 3 W from ⟨r1, r2, r3, r4, bA, by omega⟩)
  have HC := Lib.hid hc
  have HS := Lib.hid hs
  clear r1 r2 r3 r4 hc bA hs
  refine callsIn_of_wp_marks Tryd.func43 rfl trivial ?_ rfl
  simp only [Tryd.ntmps43, List.size_toArray, List.length_cons, List.length_nil, Nat.reduceAdd, Nat.reduceSub, Array.replicate_succ, Array.replicate_zero, List.push_toArray, List.append_toArray, List.nil_append, List.cons_append]
  gi_wp2_with (gi_at_call 31; refine (backw_in Fence.wide 2 hf2 rfl _ _ _ _).mono ?_; rintro e w' ⟨rfl, rfl⟩)
  change Code.wpIn _ _ _ _ _ _ (((((w.alloc (.cells (numA a) 24)).alloc (.cells (numA b) 24)).alloc (.cells zeroA 24)).alloc (.cells #[.int .i64 0] 3)).alloc (.cells #[.slice (some ⟨w.heap.size, 0, none⟩) 32 32] 44))
  rw [hW, show w.heap.size + 1 + 1 + 1 + 1 = w.heap.size + 4 from rfl, show w.heap.size + 1 + 1 + 1 = w.heap.size + 3 from rfl, show w.heap.size + 1 + 1 = w.heap.size + 2 from rfl]
  clear hW
  refine wpIn_rangeFunc_ownG (F := Fence.wide) (n := 3) rfl (by omega) (gf := 45) (lb := #[.pointer (some ⟨w.heap.size + 4, 0, none⟩)]) rfl trivial (enters_of Tryd.func45 (by kernel_rfl) rfl)
    (backN_stops Fence.wide 2 trivial rfl (by omega) (w.heap.size + 4) w.heap.size 24 _ (by rw [HS.out]; omega) (by rw [HS.out]; omega) HC.out ⟨_, num_length a, M0.out.r1⟩) (fun h k => h.trans k) (fun W l o o' hl _ _ _ => KpN.putObj W l o' (by rw [HS.out] at hl; omega) (by rw [HS.out] at hl; omega)) (Below.refl _ _) (fun _ => rfl)
    (fun pre W => ∃ (xs : List Int) (c : Nat), AddMem w b xs (-(c : Int)) .i64 24 3 W ∧ SubInv a b pre xs c)
    (fun _ _ _ => False)
    (fun pre A B row ⟨xs, c, hm, hi⟩ hg hr => ⟨xs, c, hm.grown hg (fun r e => ⟨by have := (hr r e).1; rw [HS.out] at this; exact this, (hr r e).2⟩), hi⟩)
    (fun _ _ _ _ _ hs _ _ => hs)
    ⟨_, 0, M0.out, SubInv.start hba⟩
    (fun x => { tmps := #[.agg (numA a), .agg (numA b), .pointer (some ⟨w.heap.size, 0, none⟩), .pointer (some ⟨w.heap.size + 1, 0, none⟩), .pointer (some ⟨w.heap.size + 2, 0, none⟩), .pointer (some ⟨w.heap.size + 3, 0, none⟩), .int .i64 ((x.1.val : Nat) : Int), .slice (some ⟨w.heap.size, 0, none⟩) 32 32, .func (.func 45) #[] #[.pointer (some ⟨w.heap.size + 4, 0, none⟩)], .int .i64 ((x.1.val : Nat) : Int), .int .u8 x.2, undef, undef, undef, undef, undef, undef, undef, undef, undef, undef, undef, undef, undef, undef, undef, undef, undef, undef], defers := [] }) ?assign ?body ?done ?stop
  case assign =>
    intro l x W K hK
    gi_wp2
    exact hK
  case body =>
    rintro l pre x W ⟨xs, c, hm, hi⟩ hlt
    obtain ⟨m, hmx⟩ : ∃ m : Nat, m = x.1.val := ⟨_, rfl⟩
    have hm32 : m < 32 := by rw [hmx]; exact x.1.isLt
    obtain ⟨z, hz⟩ : ∃ z, xs[m]? = some z := ⟨_, List.getElem?_eq_getElem (by rw [hi.len]; exact hm32)⟩
    have hzb := hi.byte z (List.mem_of_getElem? hz)
    have hc1 := hi.small
    have hdb := dg_lt b m
    have HI := Lib.hid (hi.next hlt x (by rw [← hmx]; exact hz))
    rw [← hmx] at HI
    have c1 : W.cell? ⟨w.heap.size, m, none⟩ = some (.int .u8 z) := hm.r1.cell hz
    have c2 : W.cell? ⟨w.heap.size + 1, m, none⟩ = some (.int .u8 ((dg b m : Nat) : Int)) := hm.r2.cell (num_at b hm32)
    have c3 : W.cell? ⟨w.heap.size + 3, 0, none⟩ = some (.int .i64 (-(c : Int))) := hm.r4.cell rfl
    have f1 : W.frozen? ⟨w.heap.size, m, none⟩ = false := hm.r1.free _
    have f3 : W.frozen? ⟨w.heap.size + 3, 0, none⟩ = false := hm.r4.free _
    rw [← hmx]
    obtain ⟨d, hd⟩ : ∃ d, d = dg b m := ⟨_, rfl⟩
    rw [← hd] at c2 hdb HI
    have w1 : IntKind.i64.wrap z = z := i64_cast (by omega) (by omega)
    have w2 : IntKind.i64.wrap (d : Int) = d := i64_cast (by omega) (by omega)
    have w3 : IntKind.i64.wrap (z - (d : Int)) = z - d := IntWalk.i64_in _ (by omega)
    have w4 : IntKind.i64.wrap (-(c : Int) + (z - (d : Int))) = -(c : Int) + (z - d) := IntWalk.i64_in _ (by omega)
    have hmi : (m : Int) < 32 := by omega
    have HM := Lib.hid hm
    clear hm hi hz hmx hd
    obtain ⟨B, hB⟩ : ∃ B, B = w.heap.size := ⟨_, rfl⟩
    rw [← hB] at c1 c2 c3 f1 f3 ⊢
    have HB := Lib.hid hB
    clear hB
    gi_wp2
    refine wpIn_region_held (S := (fun w' => w'.cell? ⟨B, m, none⟩ = some (.int .u8 z) ∧ w'.cell? ⟨B + 1, m, none⟩ = some (.int .u8 (d : Int)))) (by kernel_rfl) rfl (fun ⟨_, _, h⟩ => h) ?_ (fun hHeld => ?_)
    · exact ⟨c1, c2⟩
    refine wpAnyH_take (i := 1) (oi := { dst := some 12, op := Go.Op.move (Go.Operand.tmp 6), type := 3, pos := "work.go:109", after := #[], guard := none }) (v := ?av1) rfl (by kernel_rfl) (by kernel_rfl) (by kernel_rfl) (fun _ _ _ h => h) (Or.inl ⟨by rfl, ?ay1⟩) (by assumption) ?ar1
    case ay1 => (intro w hSw; (try dsimp only at hSw); go_simp; try (with_reducible rfl))
    case ar1 =>
    try simp only [Act.put, List.setIfInBounds_toArray, List.set_cons_zero, List.set_cons_succ]
    refine wpAnyH_take (i := 2) (oi := { dst := some 13, op := Go.Op.indexAddr 24 (Go.Operand.tmp 2) (Go.Operand.tmp 12), type := 0, pos := "work.go:109", after := #[{ on := 1, ground := Go.Ground.data }], guard := none }) (v := ?av2) rfl (by kernel_rfl) (by kernel_rfl) (by kernel_rfl) (fun _ _ _ h => h) (Or.inl ⟨by rfl, ?ay2⟩) (by assumption) ?ar2
    case ay2 => (intro w hSw; (try dsimp only at hSw); go_simp; try (with_reducible rfl))
    case ar2 =>
    try simp only [Act.put, List.setIfInBounds_toArray, List.set_cons_zero, List.set_cons_succ]
    refine wpAnyH_take (i := 3) (oi := { dst := some 14, op := Go.Op.load 5 (Go.Operand.tmp 13), type := 5, pos := "work.go:109", after := #[{ on := 2, ground := Go.Ground.data }], guard := none }) (v := ?av3) rfl (by kernel_rfl) (by kernel_rfl) (by kernel_rfl) (fun _ _ _ h => h) (Or.inl ⟨by rfl, ?ay3⟩) (by assumption) ?ar3
    case ay3 => (intro w hSw; (try dsimp only at hSw); go_simp; try (with_reducible rfl))
    case ar3 =>
    try simp only [Act.put, List.setIfInBounds_toArray, List.set_cons_zero, List.set_cons_succ]
    refine wpAnyH_take (i := 4) (oi := { dst := some 15, op := Go.Op.convert 5 3 (Go.Operand.tmp 14), type := 3, pos := "work.go:109", after := #[{ on := 3, ground := Go.Ground.data }], guard := none }) (v := ?av4) rfl (by kernel_rfl) (by kernel_rfl) (by kernel_rfl) (fun _ _ _ h => h) (Or.inl ⟨by rfl, ?ay4⟩) (by assumption) ?ar4
    case ay4 => (intro w hSw; (try dsimp only at hSw); go_simp; try (with_reducible rfl))
    case ar4 =>
    try simp only [Act.put, List.setIfInBounds_toArray, List.set_cons_zero, List.set_cons_succ]
    refine wpAnyH_take (i := 5) (oi := { dst := some 16, op := Go.Op.move (Go.Operand.tmp 6), type := 3, pos := "work.go:109", after := #[], guard := none }) (v := ?av5) rfl (by kernel_rfl) (by kernel_rfl) (by kernel_rfl) (fun _ _ _ h => h) (Or.inl ⟨by rfl, ?ay5⟩) (by assumption) ?ar5
    case ay5 => (intro w hSw; (try dsimp only at hSw); go_simp; try (with_reducible rfl))
    case ar5 =>
    try simp only [Act.put, List.setIfInBounds_toArray, List.set_cons_zero, List.set_cons_succ]
    refine wpAnyH_take (i := 6) (oi := { dst := some 17, op := Go.Op.indexAddr 24 (Go.Operand.tmp 3) (Go.Operand.tmp 16), type := 0, pos := "work.go:109", after := #[{ on := 5, ground := Go.Ground.data }], guard := none }) (v := ?av6) rfl (by kernel_rfl) (by kernel_rfl) (by kernel_rfl) (fun _ _ _ h => h) (Or.inl ⟨by rfl, ?ay6⟩) (by assumption) ?ar6
    case ay6 => (intro w hSw; (try dsimp only at hSw); go_simp; try (with_reducible rfl))
    case ar6 =>
    try simp only [Act.put, List.setIfInBounds_toArray, List.set_cons_zero, List.set_cons_succ]
    refine wpAnyH_take (i := 7) (oi := { dst := some 18, op := Go.Op.load 5 (Go.Operand.tmp 17), type := 5, pos := "work.go:109", after := #[{ on := 6, ground := Go.Ground.data }], guard := none }) (v := ?av7) rfl (by kernel_rfl) (by kernel_rfl) (by kernel_rfl) (fun _ _ _ h => h) (Or.inl ⟨by rfl, ?ay7⟩) (by assumption) ?ar7
    case ay7 => (intro w hSw; (try dsimp only at hSw); go_simp; try (with_reducible rfl))
    case ar7 =>
    try simp only [Act.put, List.setIfInBounds_toArray, List.set_cons_zero, List.set_cons_succ]
    refine wpAnyH_take (i := 8) (oi := { dst := some 19, op := Go.Op.convert 5 3 (Go.Operand.tmp 18), type := 3, pos := "work.go:109", after := #[{ on := 7, ground := Go.Ground.data }], guard := none }) (v := ?av8) rfl (by kernel_rfl) (by kernel_rfl) (by kernel_rfl) (fun _ _ _ h => h) (Or.inl ⟨by rfl, ?ay8⟩) (by assumption) ?ar8
    case ay8 => (intro w hSw; (try dsimp only at hSw); go_simp; try (with_reducible rfl))
    case ar8 =>
    try simp only [Act.put, List.setIfInBounds_toArray, List.set_cons_zero, List.set_cons_succ]
    refine wpAnyH_take (i := 9) (oi := { dst := some 20, op := Go.Op.binOp Go.BinOp.sub 3 (Go.Operand.tmp 15) (Go.Operand.tmp 19) 3, type := 3, pos := "work.go:109", after := #[{ on := 4, ground := Go.Ground.data }, { on := 8, ground := Go.Ground.data }], guard := none }) (v := ?av9) rfl (by kernel_rfl) (by kernel_rfl) (by kernel_rfl) (fun _ _ _ h => h) (Or.inl ⟨by rfl, ?ay9⟩) (by assumption) ?ar9
    case ay9 => (intro w hSw; (try dsimp only at hSw); go_simp; try (with_reducible rfl))
    case ar9 =>
    try simp only [Act.put, List.setIfInBounds_toArray, List.set_cons_zero, List.set_cons_succ]
    refine wpAnyH_ready (rs := [0]) (by kernel_rfl) (by simp) ?_
    refine AllReadyH.cons (o := { dst := some 11, op := Go.Op.load 3 (Go.Operand.tmp 5), type := 3, pos := "work.go:109", after := #[], guard := none }) rfl (fun K hK => ?_) (AllReadyH.nil)
    go_simp
    refine hK.out _ _ ?_ (fun hHeld => ?_)
    · exact hHeld
    clear hK K
    try simp only [Act.put, List.setIfInBounds_toArray, List.set_cons_zero, List.set_cons_succ]
    refine wpAnyH_take (i := 10) (oi := { dst := some 21, op := Go.Op.binOp Go.BinOp.add 3 (Go.Operand.tmp 11) (Go.Operand.tmp 20) 3, type := 3, pos := "work.go:109", after := #[{ on := 0, ground := Go.Ground.data }, { on := 9, ground := Go.Ground.data }], guard := none }) (v := ?a_0v10) rfl (by kernel_rfl) (by kernel_rfl) (by kernel_rfl) (fun _ _ _ h => h) (Or.inl ⟨by rfl, ?a_0y10⟩) (by assumption) ?a_0r10
    case a_0y10 => (intro w hSw; (try dsimp only at hSw); go_simp; try (with_reducible rfl))
    case a_0r10 =>
    try simp only [Act.put, List.setIfInBounds_toArray, List.set_cons_zero, List.set_cons_succ]
    refine wpAnyH_ready (rs := [11]) (by kernel_rfl) (by simp) ?_
    refine AllReadyH.cons (o := { dst := none, op := Go.Op.store 3 (Go.Operand.tmp 5) (Go.Operand.tmp 21), type := 0, pos := "work.go:109", after := #[{ on := 10, ground := Go.Ground.data }, { on := 0, ground := Go.Ground.phase }, { on := 1, ground := Go.Ground.phase }, { on := 2, ground := Go.Ground.phase }, { on := 3, ground := Go.Ground.phase }, { on := 4, ground := Go.Ground.phase }, { on := 5, ground := Go.Ground.phase }, { on := 6, ground := Go.Ground.phase }, { on := 7, ground := Go.Ground.phase }, { on := 8, ground := Go.Ground.phase }, { on := 9, ground := Go.Ground.phase }, { on := 10, ground := Go.Ground.phase }], guard := none }) rfl (fun K hK => ?_) (AllReadyH.nil)
    go_simp
    refine hK.out _ _ ?_ (fun hHeld => ?_)
    · exact ⟨(cell_set_other (w := W) (p := ⟨B, m, none⟩) (q := ⟨B + 3, 0, none⟩) (by show B ≠ B + 3; omega) _).trans c1, (cell_set_other (w := W) (p := ⟨B + 1, m, none⟩) (q := ⟨B + 3, 0, none⟩) (by show B + 1 ≠ B + 3; omega) _).trans c2⟩
    clear hK K
    try simp only [Act.put, List.setIfInBounds_toArray, List.set_cons_zero, List.set_cons_succ]
    refine wpAnyH_done (by kernel_rfl) ?_ _
    clear hHeld
    gi_wp2
    change ownPostG _ _ _ _ _ _ _ _ (roundW B m .i64 ((-(c : Int) + (z - (d : Int))) % 256) (-(c : Int) + (z - (d : Int))) ((-(c : Int) + (z - (d : Int))) / 256) W)
    have hb := HB.out
    subst hb
    have e : -((-((-(c : Int) + (z - (d : Int))) / 256)).toNat : Int) = (-(c : Int) + (z - (d : Int))) / 256 := by omega
    refine ⟨(roundW_keeps _ _ _ _ _ _ _).from _, roundW_kp, ⟨_, _, ?_, HI.out⟩⟩
    rw [e]
    exact HM.out.next m _ _ _
  case done =>
    rintro D ys W hD ⟨hyl, hdn⟩ ⟨xs, c, hm, hi⟩ hK
    have hd := (hi.done hdn).1
    rw [hyl, mixd_full] at hd
    have R1 := Lib.hid (show IRow W w.heap.size 24 .u8 (num n) by rw [HN.out, ← hd]; exact hm.r1)
    have q3 : IRow W (w.heap.size + 2) 24 .u8 (num 0) := hm.r3
    have Q3 := Lib.hid q3
    have QF := Lib.hid (setRow_irow (ys := num n) q3)
    have HB := Lib.hid (below_setRow (g := w.heap.size + 2) hm.bel (by omega) (numA n))
    have HKK := Lib.hid (show (W.setRow (w.heap.size + 2) (numA n)).heap[D]? = some (.deferred (some [])) by
      simp only [World.setRow, Array.getElem?_modify]
      rw [if_neg (by rw [HS.out] at hD; omega)]
      exact hK)
    clear hm hi hd hK q3
    gi_wp2_with (first
      | (refine wpListIn_load_irow rfl 24 (.tmp 2) rfl (g := w.heap.size) (t := 24) (k := .u8) (xs := num n) rfl R1.out Tryd.underlying24 (size_numN n) ?_)
      | (refine wpListIn_store_irow rfl 24 (.tmp 4) (.tmp 28) rfl (g := w.heap.size + 2) (t := 24) (k := .u8) (xs := num 0) (ys := num n) rfl rfl Q3.out (size_numN n) (same_length _ _) ?_))
    refine ⟨by simp, .inl ⟨_, _, rfl, run_takeDeferred HKK.out, ?_⟩⟩
    exact ⟨_, results_cell_row Tryd.results43 _ _ (w.heap.size + 2) 24 (numA n) (0, 0) _ rfl (irow_grown QF.out (grownBy_putObj' _ D _) (fun r e => by cases e; exact ⟨_, HKK.out, rfl⟩)) Tryd.underlying24 rfl (size_numNA n), rfl,
      HB.out.trans (belowK_b (w := w) (Nat.le_refl _) _ D _ _ (by have := HS.out; omega) HKK.out rfl rfl)⟩
  case stop =>
    rintro D c pre W _ _ h _
    exact h.elim
theorem subtract_any (a b : Nat) (w : World) (hba : b ≤ a) :
    Calls Tryd.prog 43 #[numV a, numV b] w fun e w' => e = .returned (numV (a - b)) ∧ Below w.heap.size w w' :=
  (callsIn_wide (n := 3)).1 (subtract_in a b w hba)
end Go.Proofs.YtgkocmljnoambaaDoor
