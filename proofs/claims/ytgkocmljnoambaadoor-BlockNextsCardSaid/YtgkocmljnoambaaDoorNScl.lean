/-
  block.scale: a number times one span over another. Conditions: as said.
-/
import Derived.Test.YtgkocmljnoambaaDoorNxtP
import Derived.TacticsInMore
namespace Go.Proofs.YtgkocmljnoambaaDoor
open Go.RowKit Go.Shelf

attribute [local go_sem] Oper.semAt_some
theorem pre32 (p : Nat) {i : Nat} (h : i < 32) : p / 256 ^ (32 - (i + 1)) = 256 * (p / 256 ^ (32 - i)) + dg p i := by
  unfold dg
  rw [show 32 - (i + 1) = 31 - i by omega, show 32 - i = 31 - i + 1 by omega, Nat.pow_succ, ← Nat.div_div_eq_div_mul]
  omega
theorem dg_div (p d i : Nat) : dg (p / d) i = p / 256 ^ (31 - i) / d % 256 := by
  unfold dg
  rw [Nat.div_div_eq_div_mul, Nat.div_div_eq_div_mul, Nat.mul_comm]
set_option maxRecDepth 100000 in
set_option maxHeartbeats 6400000 in
theorem scale_in (hG : ∀ W, Calls Tryd.prog 32 #[] W fun e W' => e = .returned (numV (top - 1)) ∧ Below W.heap.size W W') (a m d : Nat) (w : World) (ha : a < top) (hm : m ≤ 19200) (hd0 : 0 < d) (hd : d ≤ 4800) :
    CallsIn Fence.wide 3 Tryd.prog 33 #[numV a, .int .u32 (m : Int), .int .u32 (d : Int)] w fun e w' => e = .returned (numV (scaleN a m d)) ∧ Below w.heap.size w w' := by
  obtain ⟨n, hn⟩ : ∃ n, n = scaleN a m d := ⟨_, rfl⟩
  rw [← hn]
  have HN := Lib.hid hn
  have HG := Lib.hid hG
  have HA := Lib.hid (up_full ha)
  have HMM := Lib.hid hm
  have HD := Lib.hid hd
  have HD0 := Lib.hid hd0
  clear hn hG ha hd hd0
  unfold numV
  obtain ⟨W, hW, hmem, hc, hs⟩ := boxes5u w a m
  have hf2 : Fence.wide.fn 31 := trivial
  have M0 := Lib.hid hmem
  have HC := Lib.hid hc
  have HS := Lib.hid hs
  clear hmem hc hs
  refine callsIn_of_wp_marks Tryd.func33 rfl trivial ?_ rfl
  simp only [Tryd.ntmps33, List.size_toArray, List.length_cons, List.length_nil, Nat.reduceAdd, Nat.reduceSub, Array.replicate_succ, Array.replicate_zero, List.push_toArray, List.append_toArray, List.nil_append, List.cons_append]
  gi_wp2_with (gi_at_call 31; refine (backw_in Fence.wide 2 hf2 rfl _ _ _ _).mono ?_; rintro e w' ⟨rfl, rfl⟩)
  change Code.wpIn _ _ _ _ _ _ (((((w.alloc (.cells (numA a) 24)).alloc (.cells #[.int .u32 (m : Int)] 22)).alloc (.cells zeroA 24)).alloc (.cells #[.int .u32 0] 22)).alloc (.cells #[.slice (some ⟨w.heap.size, 0, none⟩) 32 32] 44))
  rw [hW, show w.heap.size + 1 + 1 + 1 + 1 = w.heap.size + 4 from rfl, show w.heap.size + 1 + 1 + 1 = w.heap.size + 3 from rfl, show w.heap.size + 1 + 1 = w.heap.size + 2 from rfl]
  clear hW
  refine wpIn_rangeFunc_ownG (F := Fence.wide) (n := 3) rfl (by omega) (gf := 45) (lb := #[.pointer (some ⟨w.heap.size + 4, 0, none⟩)]) rfl trivial (enters_of Tryd.func45 (by kernel_rfl) rfl)
    (backN_stops Fence.wide 2 trivial rfl (by omega) (w.heap.size + 4) w.heap.size 24 _ (by rw [HS.out]; omega) (by rw [HS.out]; omega) HC.out ⟨_, num_length a, M0.out.r1⟩) (fun h k => h.trans k) (fun W l o o' hl _ _ _ => KpN.putObj W l o' (by rw [HS.out] at hl; omega) (by rw [HS.out] at hl; omega)) (Below.refl _ _) (fun _ => rfl)
    (fun pre W => ∃ (xs : List Int) (c : Nat), ScMem w m xs (c : Int) W ∧ ScInv a m pre xs c)
    (fun _ _ _ => False)
    (fun pre A B row ⟨xs, c, hm, hi⟩ hg hr => ⟨xs, c, hm.grown hg (fun r e => ⟨by have := (hr r e).1; rw [HS.out] at this; exact this, (hr r e).2⟩), hi⟩)
    (fun _ _ _ _ _ hs _ _ => hs)
    ⟨_, 0, M0.out, ScInv.start a m⟩
    (fun x => { tmps := #[.agg (numA a), .int .u32 (m : Int), .int .u32 (d : Int), .pointer (some ⟨w.heap.size, 0, none⟩), .pointer (some ⟨w.heap.size + 1, 0, none⟩), undef, .pointer (some ⟨w.heap.size + 2, 0, none⟩), .pointer (some ⟨w.heap.size + 3, 0, none⟩), .int .i64 ((x.1.val : Nat) : Int), undef, .slice (some ⟨w.heap.size, 0, none⟩) 32 32, .func (.func 45) #[] #[.pointer (some ⟨w.heap.size + 4, 0, none⟩)], .int .i64 ((x.1.val : Nat) : Int), .int .u8 x.2, undef, undef, undef, undef, undef, undef, undef, undef, undef, undef, undef, undef, undef, undef, undef, undef, undef, undef, undef, undef, undef, undef, undef, undef, undef, undef, undef, undef, undef, undef, undef, undef, undef, undef, undef, undef, undef, undef, undef], defers := [] }) ?assign ?body ?done ?stop
  case assign =>
    intro l x W K hK
    gi_wp2
    exact hK
  case body =>
    rintro l pre x W ⟨xs, c, hme, hi⟩ hlt
    obtain ⟨i, hix⟩ : ∃ i : Nat, i = x.1.val := ⟨_, rfl⟩
    have hi32 : i < 32 := by rw [hix]; exact x.1.isLt
    obtain ⟨z, hz⟩ : ∃ z, xs[i]? = some z := ⟨_, List.getElem?_eq_getElem (by rw [hi.len]; exact hi32)⟩
    have hzb := hi.byte z (List.mem_of_getElem? hz)
    obtain ⟨zn, rfl⟩ : ∃ zn : Nat, z = (zn : Int) := ⟨z.toNat, by omega⟩
    have hcm := hi.small
    have hm := HMM.out
    have HI := Lib.hid (hi.next hlt x (by rw [← hix]; exact hz))
    rw [← hix] at HI
    have c1 : W.cell? ⟨w.heap.size, i, none⟩ = some (.int .u8 (zn : Int)) := hme.r1.cell hz
    have c2 : W.cell? ⟨w.heap.size + 1, 0, none⟩ = some (.int .u32 (m : Int)) := hme.r2.cell rfl
    have c3 : W.cell? ⟨w.heap.size + 3, 0, none⟩ = some (.int .u32 (c : Int)) := hme.r4.cell rfl
    have f1 : W.frozen? ⟨w.heap.size, i, none⟩ = false := hme.r1.free _
    have f3 : W.frozen? ⟨w.heap.size + 3, 0, none⟩ = false := hme.r4.free _
    rw [← hix]
    have hml := Nat.mul_le_mul (show zn ≤ 255 by omega) hm
    obtain ⟨Y, hY⟩ : ∃ Y, Y = zn * m := ⟨_, rfl⟩
    rw [← hY] at hml
    rw [← hY] at HI
    obtain ⟨X, hX⟩ : ∃ X, X = c + Y := ⟨_, rfl⟩
    rw [← hX] at HI
    have w1 : IntKind.u32.wrap (zn : Int) = zn := u32_in (by omega) (by omega)
    have w3 : IntKind.u32.wrap ((zn : Int) * (m : Int)) = (Y : Int) := by
      rw [show (zn : Int) * (m : Int) = (Y : Int) by rw [hY, Int.natCast_mul]]
      exact u32_in (by omega) (by omega)
    have w4 : IntKind.u32.wrap ((c : Int) + (Y : Int)) = (X : Int) := by rw [u32_in (by omega) (by omega)]; omega
    have w5 : IntKind.u8.wrap (X : Int) = ((X % 256 : Nat) : Int) := by rw [IntKind.wrap_u8']; omega
    have hii : (i : Int) < 32 := by omega
    have HM := Lib.hid hme
    clear hme hi hz hix hX hY hml hm hcm hzb
    obtain ⟨B, hB⟩ : ∃ B, B = w.heap.size := ⟨_, rfl⟩
    rw [← hB] at c1 c2 c3 f1 f3 ⊢
    have HB := Lib.hid hB
    clear hB
    gi_wp2
    refine wpIn_region_held (S := (fun w' => w'.cell? ⟨B, i, none⟩ = some (.int .u8 (zn : Int)) ∧ w'.cell? ⟨B + 1, 0, none⟩ = some (.int .u32 (m : Int)))) (by kernel_rfl) rfl (fun ⟨_, _, h⟩ => h) ?_ (fun hHeld => ?_)
    · exact ⟨c1, c2⟩
    refine wpAnyH_take (i := 1) (oi := { dst := some 15, op := Go.Op.move (Go.Operand.tmp 8), type := 3, pos := "work.go:148", after := #[], guard := none }) (v := ?av1) rfl (by kernel_rfl) (by kernel_rfl) (by kernel_rfl) (fun _ _ _ h => h) (Or.inl ⟨by rfl, ?ay1⟩) (by assumption) ?ar1
    case ay1 => (intro w hSw; (try dsimp only at hSw); go_simp; try (with_reducible rfl))
    case ar1 =>
    try simp only [Act.put, List.setIfInBounds_toArray, List.set_cons_zero, List.set_cons_succ]
    refine wpAnyH_take (i := 2) (oi := { dst := some 16, op := Go.Op.indexAddr 24 (Go.Operand.tmp 3) (Go.Operand.tmp 15), type := 0, pos := "work.go:148", after := #[{ on := 1, ground := Go.Ground.data }], guard := none }) (v := ?av2) rfl (by kernel_rfl) (by kernel_rfl) (by kernel_rfl) (fun _ _ _ h => h) (Or.inl ⟨by rfl, ?ay2⟩) (by assumption) ?ar2
    case ay2 => (intro w hSw; (try dsimp only at hSw); go_simp; try (with_reducible rfl))
    case ar2 =>
    try simp only [Act.put, List.setIfInBounds_toArray, List.set_cons_zero, List.set_cons_succ]
    refine wpAnyH_take (i := 3) (oi := { dst := some 17, op := Go.Op.load 5 (Go.Operand.tmp 16), type := 5, pos := "work.go:148", after := #[{ on := 2, ground := Go.Ground.data }], guard := none }) (v := ?av3) rfl (by kernel_rfl) (by kernel_rfl) (by kernel_rfl) (fun _ _ _ h => h) (Or.inl ⟨by rfl, ?ay3⟩) (by assumption) ?ar3
    case ay3 => (intro w hSw; (try dsimp only at hSw); go_simp; try (with_reducible rfl))
    case ar3 =>
    try simp only [Act.put, List.setIfInBounds_toArray, List.set_cons_zero, List.set_cons_succ]
    refine wpAnyH_take (i := 4) (oi := { dst := some 18, op := Go.Op.convert 5 22 (Go.Operand.tmp 17), type := 22, pos := "work.go:148", after := #[{ on := 3, ground := Go.Ground.data }], guard := none }) (v := ?av4) rfl (by kernel_rfl) (by kernel_rfl) (by kernel_rfl) (fun _ _ _ h => h) (Or.inl ⟨by rfl, ?ay4⟩) (by assumption) ?ar4
    case ay4 => (intro w hSw; (try dsimp only at hSw); go_simp; try (with_reducible rfl))
    case ar4 =>
    try simp only [Act.put, List.setIfInBounds_toArray, List.set_cons_zero, List.set_cons_succ]
    refine wpAnyH_take (i := 5) (oi := { dst := some 19, op := Go.Op.load 22 (Go.Operand.tmp 4), type := 22, pos := "work.go:148", after := #[], guard := none }) (v := ?av5) rfl (by kernel_rfl) (by kernel_rfl) (by kernel_rfl) (fun _ _ _ h => h) (Or.inl ⟨by rfl, ?ay5⟩) (by assumption) ?ar5
    case ay5 => (intro w hSw; (try dsimp only at hSw); go_simp; try (with_reducible rfl))
    case ar5 =>
    try simp only [Act.put, List.setIfInBounds_toArray, List.set_cons_zero, List.set_cons_succ]
    refine wpAnyH_take (i := 6) (oi := { dst := some 20, op := Go.Op.binOp Go.BinOp.mul 22 (Go.Operand.tmp 18) (Go.Operand.tmp 19) 22, type := 22, pos := "work.go:148", after := #[{ on := 4, ground := Go.Ground.data }, { on := 5, ground := Go.Ground.data }], guard := none }) (v := ?av6) rfl (by kernel_rfl) (by kernel_rfl) (by kernel_rfl) (fun _ _ _ h => h) (Or.inl ⟨by rfl, ?ay6⟩) (by assumption) ?ar6
    case ay6 => (intro w hSw; (try dsimp only at hSw); go_simp; try (with_reducible rfl))
    case ar6 =>
    try simp only [Act.put, List.setIfInBounds_toArray, List.set_cons_zero, List.set_cons_succ]
    refine wpAnyH_ready (rs := [0]) (by kernel_rfl) (by simp) ?_
    refine AllReadyH.cons (o := { dst := some 14, op := Go.Op.load 22 (Go.Operand.tmp 7), type := 22, pos := "work.go:148", after := #[], guard := none }) rfl (fun K hK => ?_) (AllReadyH.nil)
    go_simp
    refine hK.out _ _ ?_ (fun hHeld => ?_)
    · exact hHeld
    clear hK K
    try simp only [Act.put, List.setIfInBounds_toArray, List.set_cons_zero, List.set_cons_succ]
    refine wpAnyH_take (i := 7) (oi := { dst := some 21, op := Go.Op.binOp Go.BinOp.add 22 (Go.Operand.tmp 14) (Go.Operand.tmp 20) 22, type := 22, pos := "work.go:148", after := #[{ on := 0, ground := Go.Ground.data }, { on := 6, ground := Go.Ground.data }], guard := none }) (v := ?a_0v7) rfl (by kernel_rfl) (by kernel_rfl) (by kernel_rfl) (fun _ _ _ h => h) (Or.inl ⟨by rfl, ?a_0y7⟩) (by assumption) ?a_0r7
    case a_0y7 => (intro w hSw; (try dsimp only at hSw); go_simp; try (with_reducible rfl))
    case a_0r7 =>
    try simp only [Act.put, List.setIfInBounds_toArray, List.set_cons_zero, List.set_cons_succ]
    refine wpAnyH_ready (rs := [8]) (by kernel_rfl) (by simp) ?_
    refine AllReadyH.cons (o := { dst := none, op := Go.Op.store 22 (Go.Operand.tmp 7) (Go.Operand.tmp 21), type := 0, pos := "work.go:148", after := #[{ on := 7, ground := Go.Ground.data }, { on := 0, ground := Go.Ground.phase }, { on := 1, ground := Go.Ground.phase }, { on := 2, ground := Go.Ground.phase }, { on := 3, ground := Go.Ground.phase }, { on := 4, ground := Go.Ground.phase }, { on := 5, ground := Go.Ground.phase }, { on := 6, ground := Go.Ground.phase }, { on := 7, ground := Go.Ground.phase }], guard := none }) rfl (fun K hK => ?_) (AllReadyH.nil)
    go_simp
    refine hK.out _ _ ?_ (fun hHeld => ?_)
    · exact ⟨(cell_set_other (w := W) (p := ⟨B, i, none⟩) (q := ⟨B + 3, 0, none⟩) (by show B ≠ B + 3; omega) _).trans c1, (cell_set_other (w := W) (p := ⟨B + 1, 0, none⟩) (q := ⟨B + 3, 0, none⟩) (by show B + 1 ≠ B + 3; omega) _).trans c2⟩
    clear hK K
    try simp only [Act.put]
    refine wpAnyH_done (by kernel_rfl) ?_ _
    clear hHeld
    gi_wp2
    change ownPostG _ _ _ _ _ _ _ _ (roundW B i .u32 ((X % 256 : Nat) : Int) (X : Int) ((X / 256 : Nat) : Int) W)
    have hb := HB.out
    subst hb
    refine ⟨(roundW_keeps _ _ _ _ _ _ _).from _, roundW_kp, ⟨_, _, ?_, HI.out⟩⟩
    exact HM.out.next i _ _ _
  case done =>
    rintro D ys W hD ⟨hyl, hdn⟩ ⟨xs, c, hme, hi⟩ hK
    have hdd := hi.done hdn
    rw [hyl, mixd_full, HA.out, Nat.zero_mul, Nat.zero_add] at hdd
    obtain ⟨p, hp⟩ : ∃ p, p = a * m := ⟨_, rfl⟩
    rw [← hp] at hdd
    obtain ⟨hx, hce⟩ := hdd
    subst hx
    have hcp : c = p / top := hce.symm
    have hcs := hi.small
    have hm := HMM.out
    have c3 : W.cell? ⟨w.heap.size + 3, 0, none⟩ = some (.int .u32 (c : Int)) := hme.r4.cell rfl
    have hd := HD.out
    have hd0 := HD0.out
    by_cases hge : d ≤ c
    · have hgi : (d : Int) ≤ (c : Int) := by omega
      have hres : n = top - 1 := by
        rw [HN.out]
        unfold scaleN
        rw [← hp, ← hcp, if_pos hge]
      have CG := Lib.hid ((callsIn_wide (n := 2)).2 (HG.out W))
      rw [← hres] at CG
      have HM := Lib.hid hme
      have HK := Lib.hid hK
      have hgf : Fence.wide.fn 32 := trivial
      clear hme hi hce hcp hK hres hp
      unfold numV at CG
      gi_wp2_with fail
      refine CG.out.mono ?_
      rintro e w2 ⟨rfl, hb2⟩
      have hDW := (Array.getElem?_eq_some_iff.1 HK.out).1
      have q3 : IRow w2 (w.heap.size + 2) 24 .u8 (num 0) := HM.out.r3.below hb2 HM.out.r3.lt
      have Q3 := Lib.hid q3
      have QF := Lib.hid (setRow_irow (ys := num n) q3)
      have HB := Lib.hid (below_setRow (g := w.heap.size + 2) (HM.out.bel.trans (hb2.mono HM.out.bel.size)) (by omega) (numA n))
      have HKK := Lib.hid (show (w2.setRow (w.heap.size + 2) (numA n)).heap[D]? = some (.deferred (some [])) by
        simp only [World.setRow, Array.getElem?_modify]
        rw [if_neg (by rw [HS.out] at hD; omega)]
        exact (hb2.block D hDW).trans HK.out)
      clear q3 hb2 CG c3 hDW
      gi_wp2_with (refine wpListIn_store_irow rfl 24 (.tmp 6) (.tmp 31) rfl (g := w.heap.size + 2) (t := 24) (k := .u8) (xs := num 0) (ys := num n) rfl rfl Q3.out (size_numN n) (same_length _ _) ?_)
      refine ⟨by simp, .inl ⟨_, _, rfl, run_takeDeferred HKK.out, ?_⟩⟩
      exact ⟨_, results_cell_row Tryd.results33 _ _ (w.heap.size + 2) 24 (numA n) (0, 0) _ rfl (irow_grown QF.out (grownBy_putObj' _ D _) (fun r e => by cases e; exact ⟨_, HKK.out, rfl⟩)) Tryd.underlying24 rfl (size_numNA n), rfl,
        HB.out.trans (belowK_b (w := w) (Nat.le_refl _) _ D _ _ (by have := HS.out; omega) HKK.out rfl rfl)⟩
    · have hgi : ¬ ((d : Int) ≤ (c : Int)) := by omega
      have hgi' : (c : Int) < (d : Int) := by omega
      have hres : n = p / d := by
        rw [HN.out]
        unfold scaleN
        rw [← hp, ← hcp, if_neg hge]
      have HRES := Lib.hid hres
      have L0 := Lib.hid (show ScMem w m (mixu (p / d) p 0) (c : Int) W ∧ c = p / 256 ^ (32 - 0) % d from ⟨by rw [mixu_zero]; exact hme, by
        rw [show p / 256 ^ (32 - 0) = p / top from rfl, ← hcp, Nat.mod_eq_of_lt (by omega)]⟩)
      have HK := Lib.hid hK
      clear hme hi hce hcp hK hres hp
      gi_wp2_with fail
      gi_loopw [32] (fun iv wr => ∃ i c : Nat, i ≤ 32 ∧ iv = .int .i64 i ∧ Hid (c = p / 256 ^ (32 - i) % d) ∧ ScMem w m (mixu (p / d) p i) (c : Int) wr ∧ wr.heap[D]? = some (.deferred (some []))) (fun iv _ => 32 - (intOf iv).toNat)
      case atStart => exact ⟨0, c, by omega, rfl, Lib.hid L0.out.2, L0.out.1, HK.out⟩
      case round =>
        obtain ⟨i, c, hi, rfl, hcr, hme, hKD⟩ := hrel
        by_cases hi32 : i < 32
        · have hcd : c < d := by rw [hcr.out]; exact Nat.mod_lt _ HD0.out
          obtain ⟨z, hz⟩ : ∃ z, z = dg p i := ⟨_, rfl⟩
          have hzl : z < 256 := by rw [hz]; exact dg_lt p i
          have c1 : wr.cell? ⟨w.heap.size, i, none⟩ = some (.int .u8 (z : Int)) := by rw [hz]; exact hme.r1.cell (mixu_at _ _ _ hi32 (Nat.le_refl _))
          have c3 : wr.cell? ⟨w.heap.size + 3, 0, none⟩ = some (.int .u32 (c : Int)) := hme.r4.cell rfl
          have f1 : wr.frozen? ⟨w.heap.size, i, none⟩ = false := hme.r1.free _
          have f3 : wr.frozen? ⟨w.heap.size + 3, 0, none⟩ = false := hme.r4.free _
          obtain ⟨e1, e2, e3⟩ := div_next (d := d) (t := p / 256 ^ (32 - i)) (p := z) hd0 hzl
          rw [← hcr.out, hz, ← pre32 p hi32, ← hz] at e1 e2
          rw [← hcr.out] at e3
          obtain ⟨X, hX⟩ : ∃ X, X = c * 256 + z := ⟨_, rfl⟩
          rw [← hX] at e1 e2 e3
          obtain ⟨Q, hQ⟩ : ∃ Q, Q = X / d := ⟨_, rfl⟩
          obtain ⟨R, hR⟩ : ∃ R, R = X % d := ⟨_, rfl⟩
          rw [← hQ] at e1 e3
          rw [← hR] at e2
          have o1 : bits .or .u32 ((c : Int) * 256) (z : Int) = (X : Int) := by
            have h := or_join (a := c * 256) (b := z) (k := 8) (by omega) (by omega) (by omega) (by omega)
            rw [hX]
            simpa using h
          have w1 : IntKind.u32.wrap (z : Int) = z := u32_in (by omega) (by omega)
          have w2 : IntKind.u32.wrap ((c : Int) * 256) = (c : Int) * 256 := u32_in (by omega) (by omega)
          have t1 : (X : Int).tdiv (d : Int) = (Q : Int) := by rw [Int.tdiv_eq_ediv_of_nonneg (by omega), hQ]; rfl
          have t2 : (X : Int).tmod (d : Int) = (R : Int) := by rw [Int.tmod_eq_emod_of_nonneg (by omega), hR]; rfl
          have t3 : (X : Int) / (d : Int) = (Q : Int) := by rw [hQ]; rfl
          have t4 : (X : Int) % (d : Int) = (R : Int) := by rw [hR]; rfl
          have hRd : R < d := by rw [hR]; exact Nat.mod_lt _ hd0
          have hQu : IntKind.u8.wrap (Q : Int) = Q := by rw [IntKind.wrap_u8']; omega
          have hQw : IntKind.u32.wrap (Q : Int) = Q := u32_in (by omega) (by omega)
          have hRw : IntKind.u32.wrap (R : Int) = R := u32_in (by omega) (by omega)
          have hdz : ((d : Int) == 0) = false := by simp; omega
          have hdz2 : ¬ ((d : Int) = 0) := by omega
          have hii : (i : Int) < 32 := by omega
          have HR := Lib.hid (show R = p / 256 ^ (32 - (i + 1)) % d from e2)
          have HN2 := Lib.hid (show ScMem w m (mixu (p / d) p (i + 1)) (R : Int) (roundW w.heap.size i .u32 (Q : Int) (X : Int) (R : Int) wr) by
            have h := hme.next i (Q : Int) (X : Int) (R : Int)
            rwa [mixu_set (p / d) p hi32 (by rw [e1, dg_div, show 32 - (i + 1) = 31 - i by omega])] at h)
          have HKN := Lib.hid (show (roundW w.heap.size i .u32 (Q : Int) (X : Int) (R : Int) wr).heap[D]? = some (.deferred (some [])) by
            have hDB : w.heap.size + 5 ≤ D := by have := hD; rw [HS.out] at this; exact this
            show (((wr.setCell ⟨w.heap.size + 3, 0, none⟩ (.int .u32 (X : Int))).setCell ⟨w.heap.size, i, none⟩ (.int .u8 (Q : Int))).setCell ⟨w.heap.size + 3, 0, none⟩ (.int .u32 (R : Int))).heap[D]? = _
            rw [Below.heap_setCell _ _ _ _ (by show D ≠ w.heap.size + 3; omega), Below.heap_setCell _ _ _ _ (by show D ≠ w.heap.size; omega), Below.heap_setCell _ _ _ _ (by show D ≠ w.heap.size + 3; omega)]
            exact hKD)
          clear hme hKD hz hX hQ hR e1 e2 e3 hcr
          gi_wp2_with fail
          gi_region
          gi_wp2_with fail
          exact ⟨⟨i + 1, R, by omega, by go_num, HR, HN2.out, HKN.out⟩, by simp [intOf]; omega⟩
        · obtain rfl : i = 32 := by omega
          have R1 := Lib.hid (show IRow wr w.heap.size 24 .u8 (num n) by rw [HRES.out, ← mixu_full (p / d) p]; exact hme.r1)
          have Q3 := Lib.hid hme.r3
          have QF := Lib.hid (setRow_irow (ys := num n) hme.r3)
          have HB := Lib.hid (below_setRow (g := w.heap.size + 2) hme.bel (by omega) (numA n))
          have HKK := Lib.hid (show (wr.setRow (w.heap.size + 2) (numA n)).heap[D]? = some (.deferred (some [])) by
            simp only [World.setRow, Array.getElem?_modify]
            rw [if_neg (by rw [HS.out] at hD; omega)]
            exact hKD)
          clear hme hKD hcr
          gi_wp2_with (first
            | (refine wpListIn_load_irow rfl 24 (.tmp 3) rfl (g := w.heap.size) (t := 24) (k := .u8) (xs := num n) rfl R1.out Tryd.underlying24 (size_numN n) ?_)
            | (refine wpListIn_store_irow rfl 24 (.tmp 6) (.tmp 52) rfl (g := w.heap.size + 2) (t := 24) (k := .u8) (xs := num 0) (ys := num n) rfl rfl Q3.out (size_numN n) (same_length _ _) ?_))
          refine ⟨by simp, .inl ⟨_, _, rfl, run_takeDeferred HKK.out, ?_⟩⟩
          exact ⟨_, results_cell_row Tryd.results33 _ _ (w.heap.size + 2) 24 (numA n) (0, 0) _ rfl (irow_grown QF.out (grownBy_putObj' _ D _) (fun r e => by cases e; exact ⟨_, HKK.out, rfl⟩)) Tryd.underlying24 rfl (size_numNA n), rfl,
            HB.out.trans (belowK_b (w := w) (Nat.le_refl _) _ D _ _ (by have := HS.out; omega) HKK.out rfl rfl)⟩
  case stop =>
    rintro D c pre W _ _ h _
    exact h.elim
theorem scale_any (a m d : Nat) (w : World) (ha : a < top) (hm : m ≤ 19200) (hd0 : 0 < d) (hd : d ≤ 4800) :
    Calls Tryd.prog 33 #[numV a, .int .u32 (m : Int), .int .u32 (d : Int)] w fun e w' => e = .returned (numV (scaleN a m d)) ∧ Below w.heap.size w w' :=
  (callsIn_wide (n := 3)).1 (scale_in great_any a m d w ha hm hd0 hd)
end Go.Proofs.YtgkocmljnoambaaDoor
