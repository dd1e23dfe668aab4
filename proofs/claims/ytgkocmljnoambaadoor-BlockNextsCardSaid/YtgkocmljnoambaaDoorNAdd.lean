/-
  block.Add: two numbers added, or the greatest one. Conditions: none.
-/
import Derived.Test.YtgkocmljnoambaaDoorNBackw
import Derived.Test.YtgkocmljnoambaaDoorRoundRg
import Derived.IntWalk
namespace Go.Proofs.YtgkocmljnoambaaDoor
open Go.RowKit Go.Shelf

attribute [local go_sem] Oper.semAt_some

theorem wpListIn_load_irow {F : Fence} {m : Nat} {ops : Array Oper} {rest : List Oper} {op : Oper} {a : Act} {w : World} {Q : Exit → Act → World → Prop} (hgd : op.guard = none) (ty : TypeId) (x : Operand) (ho : op.op = .load ty x)
    {g : Nat} {t : TypeId} {k : IntKind} {xs : List Int} {n : Nat} {e : TypeId} (hx : a.eval x = .pointer (some ⟨g, 0, none⟩)) (h : IRow w g t k xs) (hu : Tryd.prog.underlying ty = some (.array n e)) (hi : (Tryd.prog.info? ty).map (·.size) = some xs.length)
    (hn : wpListIn F m Tryd.prog ops Q rest (a.put op.dst (.agg (xs.map (Value.int k)).toArray)) w) : wpListIn F m Tryd.prog ops Q (op :: rest) a w :=
  wpListIn_plain hgd fun K hK => by
    unfold Oper.wpIn
    refine ⟨by simp [Oper.about, ho], ?_⟩
    rw [Oper.semAt_plain F _ _ (by rw [ho]; intro c hc; cases hc)]
    simp only [execOp, ho, hx, loadAt_irow h hu hi, Sem.run_bind, Sem.run_pure, Result.andThen_ok]
    exact hK _ _ hn
theorem wpListIn_store_irow {F : Fence} {m : Nat} {ops : Array Oper} {rest : List Oper} {op : Oper} {a : Act} {w : World} {Q : Exit → Act → World → Prop} (hgd : op.guard = none) (ty : TypeId) (x y : Operand) (ho : op.op = .store ty x y)
    {g : Nat} {t : TypeId} {k : IntKind} {xs ys : List Int} (hx : a.eval x = .pointer (some ⟨g, 0, none⟩)) (hy : a.eval y = .agg (ys.map (Value.int k)).toArray) (h : IRow w g t k xs) (hi : (Tryd.prog.info? ty).map (·.size) = some ys.length) (hl : xs.length = ys.length)
    (hn : wpListIn F m Tryd.prog ops Q rest (a.put op.dst undef) (w.setRow g (ys.map (Value.int k)).toArray)) : wpListIn F m Tryd.prog ops Q (op :: rest) a w :=
  wpListIn_plain hgd fun K hK => by
    unfold Oper.wpIn
    refine ⟨by simp [Oper.about, ho], ?_⟩
    rw [Oper.semAt_plain F _ _ (by rw [ho]; intro c hc; cases hc)]
    simp only [execOp, ho, hx, hy, storeAt_irow h hi hl, Sem.run_bind, Sem.run_pure, Result.andThen_ok]
    exact hK _ _ hn
theorem size_numN (n : Nat) : (Tryd.prog.info? 24).map (·.size) = some (num n).length := by rw [num_length]; exact info_num
theorem size_numNA (n : Nat) : (Tryd.prog.info? 24).map (·.size) = some (numA n).size := by
  unfold numA
  rw [List.size_toArray, List.length_map, num_length]
  exact info_num
/-- What the rounds of Add keep: row and carry. -/
structure AddInv (a b : Nat) (pre : List (Fin 32 × Int)) (xs : List Int) (c : Nat) : Prop where
  len : xs.length = 32
  byte : ∀ z ∈ xs, 0 ≤ z ∧ z ≤ 255
  small : c ≤ 1
  done : Down pre → xs = mixd (a + b) a pre.length ∧ up (a + b) pre.length = up a pre.length + up b pre.length + c

theorem num_byte (n : Nat) : ∀ z ∈ num n, 0 ≤ z ∧ z ≤ 255 := fun z hz => by
  obtain ⟨i, _, rfl⟩ := List.mem_map.1 hz
  have := dg_lt n i
  omega
theorem set_byte {xs : List Int} (h : ∀ z ∈ xs, 0 ≤ z ∧ z ≤ 255) (i : Nat) {y : Int} (hy : 0 ≤ y ∧ y ≤ 255) : ∀ z ∈ xs.set i y, 0 ≤ z ∧ z ≤ 255 := fun z hz => by
  rcases List.mem_or_eq_of_mem_set hz with h1 | h1
  · exact h z h1
  · rw [h1]; exact hy
theorem AddInv.start (a b : Nat) : AddInv a b [] (num a) 0 :=
  ⟨num_length a, num_byte a, by omega, fun _ => ⟨(mixd_zero _ _).symm, by rw [List.length_nil, up_zero, up_zero, up_zero]; rfl⟩⟩
theorem AddInv.next {a b : Nat} {pre : List (Fin 32 × Int)} {xs : List Int} {c : Nat} (h : AddInv a b pre xs c) (hl : pre.length < 32) (x : Fin 32 × Int) {z : Int} (hz : xs[x.1.val]? = some z) :
    AddInv a b (pre ++ [x]) (xs.set x.1.val (((c : Int) + (z + (dg b x.1.val : Nat))) % 256)) (((c : Int) + (z + (dg b x.1.val : Nat))) / 256).toNat := by
  have hb := h.byte z (List.mem_of_getElem? hz)
  have hd := dg_lt b x.1.val
  have hc := h.small
  refine ⟨by rw [List.length_set]; exact h.len, set_byte h.byte _ (by omega), by omega, fun hdn => ?_⟩
  obtain ⟨h1, h2⟩ := hdn.init
  obtain ⟨e1, e2⟩ := h.done h1
  have hij : x.1.val + pre.length = 31 := by omega
  have hzz : z = (dg a x.1.val : Nat) := by
    rw [e1, mixd_at _ _ _ (by omega) (by omega)] at hz
    exact (Option.some.inj hz).symm
  have hn := carry_next e2
  rw [up_mod _ hij, up_mod a hij, up_mod b hij, ← up_succ, ← up_succ, ← up_succ] at hn
  rw [List.length_append, List.length_cons, List.length_nil, Nat.zero_add]
  subst hzz
  refine ⟨?_, by rw [hn.2]; congr 1; omega⟩
  rw [e1]
  exact mixd_set _ _ hij (by rw [hn.1]; omega)

/-- Two boxes, a row of zeros, a number of its own, and the box of a slice of the first. -/
theorem boxes5 (w : World) (t tc ts : TypeId) (k : IntKind) (a b : Nat) : ∃ W, ((((w.alloc (.cells (numA a) t)).alloc (.cells (numA b) t)).alloc (.cells zeroA t)).alloc (.cells #[.int k 0] tc)).alloc (.cells #[.slice (some ⟨w.heap.size, 0, none⟩) 32 32] ts) = W ∧
    IRow W w.heap.size t .u8 (num a) ∧ IRow W (w.heap.size + 1) t .u8 (num b) ∧ IRow W (w.heap.size + 2) t .u8 (num 0) ∧ IRow W (w.heap.size + 3) tc k [0] ∧ W.cell? ⟨w.heap.size + 4, 0, none⟩ = some (.slice (some ⟨w.heap.size, 0, none⟩) 32 32) ∧ Below w.heap.size w W ∧ W.heap.size = w.heap.size + 5 := by
  obtain ⟨W, hW, r1, r2, r3, bA, hs⟩ := boxes3 w t a b
  rw [hW]
  have r4 : IRow (W.alloc (.cells #[.int k 0] tc)) (w.heap.size + 3) tc k [0] := by rw [← hs]; exact IRow.new W tc k [0]
  have hs2 : (W.alloc (.cells #[.int k 0] tc)).heap.size = w.heap.size + 4 := by simp [hs]
  refine ⟨_, rfl, (r1.alloc _).alloc _, (r2.alloc _).alloc _, (r3.alloc _).alloc _, r4.alloc _, ?_, (bA.alloc bA.size _).alloc (by rw [hs2]; omega) _, by simp [hs]⟩
  have h := Boxed.new (W.alloc (.cells #[.int k 0] tc)) ts (.slice (some ⟨w.heap.size, 0, none⟩) 32 32)
  rw [hs2] at h
  exact h.cell

theorem cell_set_other {w : World} {p q : Addr} (h : p.block ≠ q.block) (v : Value) : (w.setCell q v).cell? p = w.cell? p := World.cell?_of_block (w := w) (Below.heap_setCell _ _ _ _ h)
/-- What lies in memory behind the rounds of Add. -/
structure AddMem (w : World) (b : Nat) (xs : List Int) (c : Int) (k : IntKind) (t tc : TypeId) (W : World) : Prop where
  r1 : IRow W w.heap.size t .u8 xs
  r2 : IRow W (w.heap.size + 1) t .u8 (num b)
  r3 : IRow W (w.heap.size + 2) t .u8 (num 0)
  r4 : IRow W (w.heap.size + 3) tc k [c]
  bel : Below w.heap.size w W
  size : w.heap.size + 5 ≤ W.heap.size
theorem AddMem.grown {w W W' : World} {b : Nat} {xs : List Int} {c : Int} {k : IntKind} {t tc : TypeId} {row : Option Nat} (h : AddMem w b xs c k t tc W) (hg : W.grownBy W' row)
    (hr : ∀ r, row = some r → w.heap.size + 5 ≤ r ∧ ∃ o : Obj, W.heap[r]? = some o ∧ o.isCells = false) : AddMem w b xs c k t tc W' :=
  ⟨irow_grown h.r1 hg (fun r e => (hr r e).2), irow_grown h.r2 hg (fun r e => (hr r e).2), irow_grown h.r3 hg (fun r e => (hr r e).2), irow_grown h.r4 hg (fun r e => (hr r e).2),
    h.bel.grown hg h.bel.size (fun k e => by have := (hr k e).1; omega), Nat.le_trans h.size hg.size⟩

/-- A round: the carry, the byte at m, the carry again. -/
def roundW (B m : Nat) (k : IntKind) (y c1 c2 : Int) (W : World) : World := (((W.setCell ⟨B + 3, 0, none⟩ (.int k c1)).setCell ⟨B, m, none⟩ (.int .u8 y)).setCell ⟨B + 3, 0, none⟩ (.int k c2)).drew
theorem AddMem.next {w W : World} {b : Nat} {xs : List Int} {c : Int} {k : IntKind} {t tc : TypeId} (h : AddMem w b xs c k t tc W) (m : Nat) (y c1 c2 : Int) :
    AddMem w b (xs.set m y) c2 k t tc (roundW w.heap.size m k y c1 c2 W) := by
  have n0 : ∀ (v : Value) (U : World) (t : TypeId) (k : IntKind) (zs : List Int), IRow U w.heap.size t k zs → IRow (U.setCell ⟨w.heap.size + 3, 0, none⟩ v) w.heap.size t k zs := fun v U t k zs h => h.setCell (by show w.heap.size + 3 ≠ w.heap.size; omega) v
  have n1 : ∀ (v : Value) (U : World) (p : Addr) (zs : List Int), (p.block ≠ w.heap.size + 1) → IRow U (w.heap.size + 1) t .u8 zs → IRow (U.setCell p v) (w.heap.size + 1) t .u8 zs := fun v U p zs hp h => h.setCell hp v
  have n2 : ∀ (v : Value) (U : World) (p : Addr) (zs : List Int), (p.block ≠ w.heap.size + 2) → IRow U (w.heap.size + 2) t .u8 zs → IRow (U.setCell p v) (w.heap.size + 2) t .u8 zs := fun v U p zs hp h => h.setCell hp v
  refine ⟨?_, ?_, ?_, ?_, ?_, ?_⟩
  · exact (n0 _ _ _ _ _ ((n0 _ _ _ _ _ h.r1).set m y)).drew
  · exact (n1 _ _ _ _ (by show w.heap.size + 3 ≠ _; omega) (n1 _ _ _ _ (by show w.heap.size ≠ _; omega) (n1 _ _ _ _ (by show w.heap.size + 3 ≠ _; omega) h.r2))).drew
  · exact (n2 _ _ _ _ (by show w.heap.size + 3 ≠ _; omega) (n2 _ _ _ _ (by show w.heap.size ≠ _; omega) (n2 _ _ _ _ (by show w.heap.size + 3 ≠ _; omega) h.r3))).drew
  · exact (((h.r4.set 0 c1).setCell (p := ⟨w.heap.size, m, none⟩) (by show w.heap.size ≠ w.heap.size + 3; omega) (.int .u8 y)).set 0 c2).drew
  · have hb := ((h.bel.setCell (p := ⟨w.heap.size + 3, 0, none⟩) (by show w.heap.size ≤ w.heap.size + 3; omega) (.int k c1)).setCell (p := ⟨w.heap.size, m, none⟩) (Nat.le_refl _) (.int .u8 y)).setCell (p := ⟨w.heap.size + 3, 0, none⟩) (by show w.heap.size ≤ w.heap.size + 3; omega) (.int k c2)
    exact below_drewN hb 1
  · have := h.size
    show _ ≤ (((W.setCell ⟨w.heap.size + 3, 0, none⟩ (.int k c1)).setCell ⟨w.heap.size, m, none⟩ (.int .u8 y)).setCell ⟨w.heap.size + 3, 0, none⟩ (.int k c2)).heap.size
    simpa [World.setCell] using this
theorem roundW_keeps (B m : Nat) (k : IntKind) (y c1 c2 : Int) (W : World) : KeepsOthers W (roundW B m k y c1 c2 W) :=
  (((KeepsOthers.setCell _ _ _).trans (KeepsOthers.setCell _ _ _)).trans (KeepsOthers.setCell _ _ _)).trans (KeepsOthers.drew _)
theorem roundW_kp {B m : Nat} {k : IntKind} {y c1 c2 : Int} {W : World} {t : TypeId} : KpN (B + 4) B t W (roundW B m k y c1 c2 W) := by
  refine ⟨?_, fun _ => ?_⟩
  · show (((W.setCell ⟨B + 3, 0, none⟩ (.int k c1)).setCell ⟨B, m, none⟩ (.int .u8 y)).setCell ⟨B + 3, 0, none⟩ (.int k c2)).heap[B + 4]? = _
    rw [Below.heap_setCell _ _ _ _ (by show B + 4 ≠ B + 3; omega), Below.heap_setCell _ _ _ _ (by show B + 4 ≠ B; omega), Below.heap_setCell _ _ _ _ (by show B + 4 ≠ B + 3; omega)]
  · rename_i hrow
    obtain ⟨zs, hl, hz⟩ := hrow
    exact ⟨zs.set m y, by rw [List.length_set]; exact hl, ((((hz.setCell (p := ⟨B + 3, 0, none⟩) (by show B + 3 ≠ B; omega) (.int k c1)).set m y).setCell (p := ⟨B + 3, 0, none⟩) (by show B + 3 ≠ B; omega) (.int k c2)).drew)⟩

set_option maxRecDepth 100000 in
set_option maxHeartbeats 3200000 in
theorem add_in (hG : ∀ W, Calls Tryd.prog 32 #[] W fun e W' => e = .returned (numV (top - 1)) ∧ Below W.heap.size W W') (a b : Nat) (w : World) (ha : a < top) (hb : b < top) :
    CallsIn Fence.wide 3 Tryd.prog 15 #[numV a, numV b] w fun e w' => e = .returned (numV (sumN a b)) ∧ Below w.heap.size w w' := by
  obtain ⟨n, hn⟩ : ∃ n, n = sumN a b := ⟨_, rfl⟩
  rw [← hn]
  have HN := Lib.hid hn
  have HT := Lib.hid (up_full ha)
  have HT2 := Lib.hid (up_full hb)
  have HG := Lib.hid hG
  clear hn ha hb hG
  unfold numV
  obtain ⟨W, hW, r1, r2, r3, r4, hc, bA, hs⟩ := boxes5 w 24 3 44 .i64 a b
  have hf2 : Fence.wide.fn 31 := trivial
  have M0 := Lib.hid (show AddMem w b (num a) 0 .i64 24 3 W from ⟨r1, r2, r3, r4, bA, by omega⟩)
  have HC := Lib.hid hc
  have HS := Lib.hid hs
  clear r1 r2 r3 r4 hc bA hs
  refine callsIn_of_wp_marks Tryd.func15 rfl trivial ?_ rfl
  simp only [Tryd.ntmps15, List.size_toArray, List.length_cons, List.length_nil, Nat.reduceAdd, Nat.reduceSub, Array.replicate_succ, Array.replicate_zero, List.push_toArray, List.append_toArray, List.nil_append, List.cons_append]
  gi_wp2_with (gi_at_call 31; refine (backw_in Fence.wide 2 hf2 rfl _ _ _ _).mono ?_; rintro e w' ⟨rfl, rfl⟩)
  change Code.wpIn _ _ _ _ _ _ (((((w.alloc (.cells (numA a) 24)).alloc (.cells (numA b) 24)).alloc (.cells zeroA 24)).alloc (.cells #[.int .i64 0] 3)).alloc (.cells #[.slice (some ⟨w.heap.size, 0, none⟩) 32 32] 44))
  rw [hW, show w.heap.size + 1 + 1 + 1 + 1 = w.heap.size + 4 from rfl, show w.heap.size + 1 + 1 + 1 = w.heap.size + 3 from rfl, show w.heap.size + 1 + 1 = w.heap.size + 2 from rfl]
  clear hW
  refine wpIn_rangeFunc_ownG (F := Fence.wide) (n := 3) rfl (by omega) (gf := 45) (lb := #[.pointer (some ⟨w.heap.size + 4, 0, none⟩)]) rfl trivial (enters_of Tryd.func45 (by kernel_rfl) rfl)
    (backN_stops Fence.wide 2 trivial rfl (by omega) (w.heap.size + 4) w.heap.size 24 _ (by rw [HS.out]; omega) (by rw [HS.out]; omega) HC.out ⟨_, num_length a, M0.out.r1⟩) (fun h k => h.trans k) (fun W l o o' hl _ _ _ => KpN.putObj W l o' (by rw [HS.out] at hl; omega) (by rw [HS.out] at hl; omega)) (Below.refl _ _) (fun _ => rfl)
    (fun pre W => ∃ (xs : List Int) (c : Nat), AddMem w b xs c .i64 24 3 W ∧ AddInv a b pre xs c)
    (fun _ _ _ => False)
    (fun pre A B row ⟨xs, c, hm, hi⟩ hg hr => ⟨xs, c, hm.grown hg (fun r e => ⟨by have := (hr r e).1; rw [HS.out] at this; exact this, (hr r e).2⟩), hi⟩)
    (fun _ _ _ _ _ hs _ _ => hs)
    ⟨_, 0, M0.out, AddInv.start a b⟩
    (fun x => { tmps := #[.agg (numA a), .agg (numA b), .pointer (some ⟨w.heap.size, 0, none⟩), .pointer (some ⟨w.heap.size + 1, 0, none⟩), .pointer (some ⟨w.heap.size + 2, 0, none⟩), .pointer (some ⟨w.heap.size + 3, 0, none⟩), .int .i64 ((x.1.val : Nat) : Int), .slice (some ⟨w.heap.size, 0, none⟩) 32 32, .func (.func 45) #[] #[.pointer (some ⟨w.heap.size + 4, 0, none⟩)], .int .i64 ((x.1.val : Nat) : Int), .int .u8 x.2, undef, undef, undef, undef, undef, undef, undef, undef, undef, undef, undef, undef, undef, undef, undef, undef, undef, undef, undef, undef, undef], defers := [] }) ?assign ?body ?done ?stop
  case assign =>
    intro l x W K hK
    gi_wp2
    exact hK
  case body =>
    rintro l pre x W ⟨xs, c, hm, hi⟩ hlt
    obtain ⟨m, hmx⟩ : ∃ m : Nat, m = x.1.val := ⟨_, rfl⟩
    have hm32 : m < 32 := by rw [hmx]; exact x.1.isLt
    obtain ⟨z, hz⟩ : ∃ z, xs[m]? = some z := ⟨_, List.getElem?_eq_getElem (by rw [hi.len]; exact hm32)⟩
    have hzb := hi.byte z (List.mem_of_getElem? hz)
    have hc1 := hi.small
    have hdb := dg_lt b m
    have HI := Lib.hid (hi.next hlt x (by rw [← hmx]; exact hz))
    rw [← hmx] at HI
    have c1 : W.cell? ⟨w.heap.size, m, none⟩ = some (.int .u8 z) := hm.r1.cell hz
    have c2 : W.cell? ⟨w.heap.size + 1, m, none⟩ = some (.int .u8 ((dg b m : Nat) : Int)) := hm.r2.cell (num_at b hm32)
    have c3 : W.cell? ⟨w.heap.size + 3, 0, none⟩ = some (.int .i64 (c : Int)) := hm.r4.cell rfl
    have f1 : W.frozen? ⟨w.heap.size, m, none⟩ = false := hm.r1.free _
    have f3 : W.frozen? ⟨w.heap.size + 3, 0, none⟩ = false := hm.r4.free _
    rw [← hmx]
    obtain ⟨d, hd⟩ : ∃ d, d = dg b m := ⟨_, rfl⟩
    rw [← hd] at c2 hdb HI
    have w1 : IntKind.i64.wrap z = z := i64_cast (by omega) (by omega)
    have w2 : IntKind.i64.wrap (d : Int) = d := i64_cast (by omega) (by omega)
    have w3 : IntKind.i64.wrap (z + (d : Int)) = z + d := i64_cast (by omega) (by omega)
    have w4 : IntKind.i64.wrap ((c : Int) + (z + (d : Int))) = c + (z + d) := i64_cast (by omega) (by omega)
    have hmi : (m : Int) < 32 := by omega
    have HM := Lib.hid hm
    clear hm hi hz hmx hd
    obtain ⟨B, hB⟩ : ∃ B, B = w.heap.size := ⟨_, rfl⟩
    rw [← hB] at c1 c2 c3 f1 f3 ⊢
    have HB := Lib.hid hB
    clear hB
    gi_wp2
    refine wpIn_region_held (S := (fun w' => w'.cell? ⟨B, m, none⟩ = some (.int .u8 z) ∧ w'.cell? ⟨B + 1, m, none⟩ = some (.int .u8 (d : Int)))) (by kernel_rfl) rfl (fun ⟨_, _, h⟩ => h) ?_ (fun hHeld => ?_)
    · exact ⟨c1, c2⟩
    refine wpAnyH_take (i := 1) (oi := { dst := some 12, op := Go.Op.move (Go.Operand.tmp 6), type := 3, pos := "work.go:95", after := #[], guard := none }) (v := ?av1) rfl (by kernel_rfl) (by kernel_rfl) (by kernel_rfl) (fun _ _ _ h => h) (Or.inl ⟨by rfl, ?ay1⟩) (by assumption) ?ar1
    case ay1 => (intro w hSw; (try dsimp only at hSw); go_simp; try (with_reducible rfl))
    case ar1 =>
    try simp only [Act.put, List.setIfInBounds_toArray, List.set_cons_zero, List.set_cons_succ]
    refine wpAnyH_take (i := 2) (oi := { dst := some 13, op := Go.Op.indexAddr 24 (Go.Operand.tmp 2) (Go.Operand.tmp 12), type := 0, pos := "work.go:95", after := #[{ on := 1, ground := Go.Ground.data }], guard := none }) (v := ?av2) rfl (by kernel_rfl) (by kernel_rfl) (by kernel_rfl) (fun _ _ _ h => h) (Or.inl ⟨by rfl, ?ay2⟩) (by assumption) ?ar2
    case ay2 => (intro w hSw; (try dsimp only at hSw); go_simp; try (with_reducible rfl))
    case ar2 =>
    try simp only [Act.put, List.setIfInBounds_toArray, List.set_cons_zero, List.set_cons_succ]
    refine wpAnyH_take (i := 3) (oi := { dst := some 14, op := Go.Op.load 5 (Go.Operand.tmp 13), type := 5, pos := "work.go:95", after := #[{ on := 2, ground := Go.Ground.data }], guard := none }) (v := ?av3) rfl (by kernel_rfl) (by kernel_rfl) (by kernel_rfl) (fun _ _ _ h => h) (Or.inl ⟨by rfl, ?ay3⟩) (by assumption) ?ar3
    case ay3 => (intro w hSw; (try dsimp only at hSw); go_simp; try (with_reducible rfl))
    case ar3 =>
    try simp only [Act.put, List.setIfInBounds_toArray, List.set_cons_zero, List.set_cons_succ]
    refine wpAnyH_take (i := 4) (oi := { dst := some 15, op := Go.Op.convert 5 3 (Go.Operand.tmp 14), type := 3, pos := "work.go:95", after := #[{ on := 3, ground := Go.Ground.data }], guard := none }) (v := ?av4) rfl (by kernel_rfl) (by kernel_rfl) (by kernel_rfl) (fun _ _ _ h => h) (Or.inl ⟨by rfl, ?ay4⟩) (by assumption) ?ar4
    case ay4 => (intro w hSw; (try dsimp only at hSw); go_simp; try (with_reducible rfl))
    case ar4 =>
    try simp only [Act.put, List.setIfInBounds_toArray, List.set_cons_zero, List.set_cons_succ]
    refine wpAnyH_take (i := 5) (oi := { dst := some 16, op := Go.Op.move (Go.Operand.tmp 6), type := 3, pos := "work.go:95", after := #[], guard := none }) (v := ?av5) rfl (by kernel_rfl) (by kernel_rfl) (by kernel_rfl) (fun _ _ _ h => h) (Or.inl ⟨by rfl, ?ay5⟩) (by assumption) ?ar5
    case ay5 => (intro w hSw; (try dsimp only at hSw); go_simp; try (with_reducible rfl))
    case ar5 =>
    try simp only [Act.put, List.setIfInBounds_toArray, List.set_cons_zero, List.set_cons_succ]
    refine wpAnyH_take (i := 6) (oi := { dst := some 17, op := Go.Op.indexAddr 24 (Go.Operand.tmp 3) (Go.Operand.tmp 16), type := 0, pos := "work.go:95", after := #[{ on := 5, ground := Go.Ground.data }], guard := none }) (v := ?av6) rfl (by kernel_rfl) (by kernel_rfl) (by kernel_rfl) (fun _ _ _ h => h) (Or.inl ⟨by rfl, ?ay6⟩) (by assumption) ?ar6
    case ay6 => (intro w hSw; (try dsimp only at hSw); go_simp; try (with_reducible rfl))
    case ar6 =>
    try simp only [Act.put, List.setIfInBounds_toArray, List.set_cons_zero, List.set_cons_succ]
    refine wpAnyH_take (i := 7) (oi := { dst := some 18, op := Go.Op.load 5 (Go.Operand.tmp 17), type := 5, pos := "work.go:95", after := #[{ on := 6, ground := Go.Ground.data }], guard := none }) (v := ?av7) rfl (by kernel_rfl) (by kernel_rfl) (by kernel_rfl) (fun _ _ _ h => h) (Or.inl ⟨by rfl, ?ay7⟩) (by assumption) ?ar7
    case ay7 => (intro w hSw; (try dsimp only at hSw); go_simp; try (with_reducible rfl))
    case ar7 =>
    try simp only [Act.put, List.setIfInBounds_toArray, List.set_cons_zero, List.set_cons_succ]
    refine wpAnyH_take (i := 8) (oi := { dst := some 19, op := Go.Op.convert 5 3 (Go.Operand.tmp 18), type := 3, pos := "work.go:95", after := #[{ on := 7, ground := Go.Ground.data }], guard := none }) (v := ?av8) rfl (by kernel_rfl) (by kernel_rfl) (by kernel_rfl) (fun _ _ _ h => h) (Or.inl ⟨by rfl, ?ay8⟩) (by assumption) ?ar8
    case ay8 => (intro w hSw; (try dsimp only at hSw); go_simp; try (with_reducible rfl))
    case ar8 =>
    try simp only [Act.put, List.setIfInBounds_toArray, List.set_cons_zero, List.set_cons_succ]
    refine wpAnyH_take (i := 9) (oi := { dst := some 20, op := Go.Op.binOp Go.BinOp.add 3 (Go.Operand.tmp 15) (Go.Operand.tmp 19) 3, type := 3, pos := "work.go:95", after := #[{ on := 4, ground := Go.Ground.data }, { on := 8, ground := Go.Ground.data }], guard := none }) (v := ?av9) rfl (by kernel_rfl) (by kernel_rfl) (by kernel_rfl) (fun _ _ _ h => h) (Or.inl ⟨by rfl, ?ay9⟩) (by assumption) ?ar9
    case ay9 => (intro w hSw; (try dsimp only at hSw); go_simp; try (with_reducible rfl))
    case ar9 =>
    try simp only [Act.put, List.setIfInBounds_toArray, List.set_cons_zero, List.set_cons_succ]
    refine wpAnyH_ready (rs := [0]) (by kernel_rfl) (by simp) ?_
    refine AllReadyH.cons (o := { dst := some 11, op := Go.Op.load 3 (Go.Operand.tmp 5), type := 3, pos := "work.go:95", after := #[], guard := none }) rfl (fun K hK => ?_) (AllReadyH.nil)
    go_simp
    refine hK.out _ _ ?_ (fun hHeld => ?_)
    · exact hHeld
    clear hK K
    try simp only [Act.put, List.setIfInBounds_toArray, List.set_cons_zero, List.set_cons_succ]
    refine wpAnyH_take (i := 10) (oi := { dst := some 21, op := Go.Op.binOp Go.BinOp.add 3 (Go.Operand.tmp 11) (Go.Operand.tmp 20) 3, type := 3, pos := "work.go:95", after := #[{ on := 0, ground := Go.Ground.data }, { on := 9, ground := Go.Ground.data }], guard := none }) (v := ?a_0v10) rfl (by kernel_rfl) (by kernel_rfl) (by kernel_rfl) (fun _ _ _ h => h) (Or.inl ⟨by rfl, ?a_0y10⟩) (by assumption) ?a_0r10
    case a_0y10 => (intro w hSw; (try dsimp only at hSw); go_simp; try (with_reducible rfl))
    case a_0r10 =>
    try simp only [Act.put, List.setIfInBounds_toArray, List.set_cons_zero, List.set_cons_succ]
    refine wpAnyH_ready (rs := [11]) (by kernel_rfl) (by simp) ?_
    refine AllReadyH.cons (o := { dst := none, op := Go.Op.store 3 (Go.Operand.tmp 5) (Go.Operand.tmp 21), type := 0, pos := "work.go:95", after := #[{ on := 10, ground := Go.Ground.data }, { on := 0, ground := Go.Ground.phase }, { on := 1, ground := Go.Ground.phase }, { on := 2, ground := Go.Ground.phase }, { on := 3, ground := Go.Ground.phase }, { on := 4, ground := Go.Ground.phase }, { on := 5, ground := Go.Ground.phase }, { on := 6, ground := Go.Ground.phase }, { on := 7, ground := Go.Ground.phase }, { on := 8, ground := Go.Ground.phase }, { on := 9, ground := Go.Ground.phase }, { on := 10, ground := Go.Ground.phase }], guard := none }) rfl (fun K hK => ?_) (AllReadyH.nil)
    go_simp
    refine hK.out _ _ ?_ (fun hHeld => ?_)
    · exact ⟨(cell_set_other (w := W) (p := ⟨B, m, none⟩) (q := ⟨B + 3, 0, none⟩) (by show B ≠ B + 3; omega) _).trans c1, (cell_set_other (w := W) (p := ⟨B + 1, m, none⟩) (q := ⟨B + 3, 0, none⟩) (by show B + 1 ≠ B + 3; omega) _).trans c2⟩
    clear hK K
    try simp only [Act.put, List.setIfInBounds_toArray, List.set_cons_zero, List.set_cons_succ]
    refine wpAnyH_done (by kernel_rfl) ?_ _
    clear hHeld
    gi_wp2
    change ownPostG _ _ _ _ _ _ _ _ (roundW B m .i64 (((c : Int) + (z + (d : Int))) % 256) ((c : Int) + (z + (d : Int))) (((c : Int) + (z + (d : Int))) / 256) W)
    have hb := HB.out
    subst hb
    have e : ((((c : Int) + (z + (d : Int))) / 256).toNat : Int) = ((c : Int) + (z + (d : Int))) / 256 := Int.toNat_of_nonneg (by omega)
    refine ⟨(roundW_keeps _ _ _ _ _ _ _).from _, roundW_kp, ⟨_, _, ?_, HI.out⟩⟩
    rw [e]
    exact HM.out.next m _ _ _
  case done =>
    rintro D ys W hD ⟨hyl, hdn⟩ ⟨xs, c, hm, hi⟩ hK
    have hd := (hi.done hdn)
    rw [hyl, mixd_full] at hd
    rw [HT.out, HT2.out] at hd
    obtain ⟨hx, he⟩ := hd
    by_cases hc : 0 < c
    · have hcd : decide ((0 : Int) < (c : Int)) = true := decide_eq_true (by omega)
      have hres : n = top - 1 := by
        rw [HN.out]
        unfold sumN
        rw [if_neg]
        intro h
        have := up_full h
        omega
      have c3 : W.cell? ⟨w.heap.size + 3, 0, none⟩ = some (.int .i64 (c : Int)) := hm.r4.cell rfl
      have CG := Lib.hid ((callsIn_wide (n := 2)).2 (HG.out W))
      rw [← hres] at CG
      have HM := Lib.hid hm
      have HK := Lib.hid hK
      have HCD := Lib.hid hc
      have hgf : Fence.wide.fn 32 := trivial
      clear hm hi hx he hc hK hres
      unfold numV at CG
      gi_wp2_with fail
      refine CG.out.mono ?_
      rintro e w2 ⟨rfl, hb2⟩
      have hDW := (Array.getElem?_eq_some_iff.1 HK.out).1
      have q3 : IRow w2 (w.heap.size + 2) 24 .u8 (num 0) := HM.out.r3.below hb2 HM.out.r3.lt
      have Q3 := Lib.hid q3
      have QF := Lib.hid (setRow_irow (ys := num n) q3)
      have HB := Lib.hid (below_setRow (g := w.heap.size + 2) (HM.out.bel.trans (hb2.mono HM.out.bel.size)) (by omega) (numA n))
      have HKK := Lib.hid (show (w2.setRow (w.heap.size + 2) (numA n)).heap[D]? = some (.deferred (some [])) by
        simp only [World.setRow, Array.getElem?_modify]
        rw [if_neg (by rw [HS.out] at hD; omega)]
        exact (hb2.block D hDW).trans HK.out)
      clear q3 hb2 CG c3 hDW
      gi_wp2_with (refine wpListIn_store_irow rfl 24 (.tmp 4) (.tmp 30) rfl (g := w.heap.size + 2) (t := 24) (k := .u8) (xs := num 0) (ys := num n) rfl rfl Q3.out (size_numN n) (same_length _ _) ?_)
      refine ⟨by simp, .inl ⟨_, _, rfl, run_takeDeferred HKK.out, ?_⟩⟩
      exact ⟨_, results_cell_row Tryd.results15 _ _ (w.heap.size + 2) 24 (numA n) (0, 0) _ rfl (irow_grown QF.out (grownBy_putObj' _ D _) (fun r e => by cases e; exact ⟨_, HKK.out, rfl⟩)) Tryd.underlying24 rfl (size_numNA n), rfl,
        HB.out.trans (belowK_b (w := w) (Nat.le_refl _) _ D _ _ (by have := HS.out; omega) HKK.out rfl rfl)⟩
    · have hc0 : c = 0 := by omega
      subst hc0
      have hcd : decide ((0 : Int) < ((0 : Nat) : Int)) = false := rfl
      have hres : n = a + b := by
        rw [HN.out]
        unfold sumN
        rw [if_pos (up_top (by omega))]
      have c3 : W.cell? ⟨w.heap.size + 3, 0, none⟩ = some (.int .i64 ((0 : Nat) : Int)) := hm.r4.cell rfl
      have R1 := Lib.hid (show IRow W w.heap.size 24 .u8 (num n) by rw [hres, ← hx]; exact hm.r1)
      have q3 : IRow W (w.heap.size + 2) 24 .u8 (num 0) := hm.r3
      have Q3 := Lib.hid q3
      have QF := Lib.hid (setRow_irow (ys := num n) q3)
      have HB := Lib.hid (below_setRow (g := w.heap.size + 2) hm.bel (by omega) (numA n))
      have HKK := Lib.hid (show (W.setRow (w.heap.size + 2) (numA n)).heap[D]? = some (.deferred (some [])) by
        simp only [World.setRow, Array.getElem?_modify]
        rw [if_neg (by rw [HS.out] at hD; omega)]
        exact hK)
      clear hm hi hx he hc hK hres q3
      gi_wp2_with (first
        | (refine wpListIn_load_irow rfl 24 (.tmp 2) rfl (g := w.heap.size) (t := 24) (k := .u8) (xs := num n) rfl R1.out Tryd.underlying24 (size_numN n) ?_)
        | (refine wpListIn_store_irow rfl 24 (.tmp 4) (.tmp 31) rfl (g := w.heap.size + 2) (t := 24) (k := .u8) (xs := num 0) (ys := num n) rfl rfl Q3.out (size_numN n) (same_length _ _) ?_))
      refine ⟨by simp, .inl ⟨_, _, rfl, run_takeDeferred HKK.out, ?_⟩⟩
      exact ⟨_, results_cell_row Tryd.results15 _ _ (w.heap.size + 2) 24 (numA n) (0, 0) _ rfl (irow_grown QF.out (grownBy_putObj' _ D _) (fun r e => by cases e; exact ⟨_, HKK.out, rfl⟩)) Tryd.underlying24 rfl (size_numNA n), rfl,
        HB.out.trans (belowK_b (w := w) (Nat.le_refl _) _ D _ _ (by have := HS.out; omega) HKK.out rfl rfl)⟩
  case stop =>
    rintro D c pre W _ _ h _
    exact h.elim
end Go.Proofs.YtgkocmljnoambaaDoor
