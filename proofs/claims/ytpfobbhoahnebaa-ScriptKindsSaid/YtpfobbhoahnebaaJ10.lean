/-
  Texts joined: SnWitO, SnKindA, SnKindB, SnKindC, SnRbeg, SnKindQ. Conditions: those of each.
-/
import Derived.Test.YtpfobbhoahnebaaJ9
/-
  Rows of parts that are the call's own; script.witness. Conditions: none.
-/
namespace Go.Proofs.Ytpfobbhoahnebaa
open Go.RowKit

/-- The bytes of no two lie in one block. -/
def Alone (M : List (Value × List UInt8)) : Prop := M.Pairwise (fun p q => ∀ g, p.1.ownBlock = some g → q.1.ownBlock ≠ some g)
/-- A kind and its parts, all the call's own. -/
def KindO (w : World) (base : Nat) (k : Int × List (List UInt8)) (e : Ending) (w' : World) : Prop :=
  ∃ v M, e = .returned (.tuple #[.int .i64 k.1, v]) ∧ M.map (·.2) = k.2 ∧ BagAt w' base v M ∧ Alone M ∧ Below w.heap.size w w'
theorem bagrow_new (w : World) (base : Nat) (l : List Value) (hb : base ≤ w.heap.size) (hl : l.length ≤ maxLen) : (w.alloc (.cells l.toArray 22)).ownsRow base 22 1 (.slice (some ⟨w.heap.size, 0, none⟩) l.length l.length) l.length l :=
  ⟨by simp, .inr ⟨w.heap.size, l.length, _, rfl, hb, heap_alloc_new w _, Nat.le_refl _, hl, by simp, by simp⟩⟩
theorem alone_single (p : Value × List UInt8) : Alone [p] := List.pairwise_singleton _ _
theorem own_later {w w' : World} {base : Nat} {v : Value} {xs : List UInt8} (h : OwnB w base v xs) (hb : Below w.heap.size w w') : OwnB w' base v xs := own_turns h (Turns.of_below (S := fun _ => False) hb) (fun _ _ h => h)

set_option maxRecDepth 100000 in
set_option maxHeartbeats 1600000 in
theorem wit_any (base : Nat) (v : Int) (u : Value) (p : List UInt8) (w : World) (hu : OwnB w base u p) (hb : base ≤ w.heap.size) (h0 : 0 ≤ v) (h1 : v ≤ 16) :
    Calls Try.prog 62 #[.int .i64 v, u] w (KindO w base (witB v p)) := by
  obtain ⟨A, c, rfl⟩ := own_form hu
  have dr : ∀ B (W : World), Below B W W := fun _ _ => Below.refl _ _
  have HU := Lib.hid (own_later hu (byt_below w (.cells #[.slice A p.length c] 22) (Nat.le_refl _)))
  have HROW := Lib.hid (bagrow_new w base [.slice A p.length c] hb (by unfold maxLen; simp))
  have HBB := Lib.hid (byt_below (B := w.heap.size) w (.cells #[.slice A p.length c] 22) (Nat.le_refl _))
  by_cases hv : v = 0
  · subst hv
    by_cases h20 : p.length = 20
    · have e20 : ((p.length : Int) == 20) = true := by rw [h20]; rfl
      have hk : witB 0 p = (3, [p]) := by unfold witB; rw [if_pos ⟨rfl, h20⟩]
      rw [hk]
      clear hu h20 hk
      go_enter Try.func62, Try.ntmps62
      go_wp2_with fail
      go_ret2
      exact ⟨_, [(.slice A p.length c, p)], rfl, rfl, ⟨HROW.out, fun q hq => by rcases List.mem_singleton.1 hq with rfl; exact HU.out⟩, alone_single _, HBB.out⟩
    · have e20 : ((p.length : Int) == 20) = false := by simp only [beq_eq_false_iff_ne, ne_eq]; omega
      by_cases h32 : p.length = 32
      · have e32 : ((p.length : Int) == 32) = true := by rw [h32]; rfl
        have hk : witB 0 p = (4, [p]) := by unfold witB; rw [if_neg (by omega), if_pos ⟨rfl, h32⟩]
        rw [hk]
        clear hu h20 h32 hk
        go_enter Try.func62, Try.ntmps62
        go_wp2_with fail
        go_ret2
        exact ⟨_, [(.slice A p.length c, p)], rfl, rfl, ⟨HROW.out, fun q hq => by rcases List.mem_singleton.1 hq with rfl; exact HU.out⟩, alone_single _, HBB.out⟩
      · have e32 : ((p.length : Int) == 32) = false := by simp only [beq_eq_false_iff_ne, ne_eq]; omega
        have hk : witB 0 p = (7, [[b8 0], p]) := by unfold witB; rw [if_neg (by omega), if_neg (by omega)]
        rw [hk]
        have hlt := fun k hk => (World.ownsRow.lt hu k hk).2
        have H1 := Lib.hid (own_later hu (byt_below w (.cells #[.int .u8 0] 5) (Nat.le_refl _)))
        have HOM := Lib.hid (own_made w 5 [.int .u8 0] [b8 0] rfl (by unfold maxLen; simp))
        have hr2 := bagrow_new (w.alloc (.cells #[.int .u8 0] 5)) base [.slice (some ⟨w.heap.size, 0, none⟩) 1 1, .slice A p.length c] (by simp; omega) (by unfold maxLen; simp)
        rw [World.size_alloc] at hr2
        have HR2 := Lib.hid hr2
        clear hr2
        have HLT := Lib.hid hlt
        clear hu h20 h32 hk hlt
        go_enter Try.func62, Try.ntmps62
        go_wp2_with fail
        go_ret2
        have hb2 : Below (w.alloc (.cells #[.int .u8 0] 5)).heap.size (w.alloc (.cells #[.int .u8 0] 5)) ((w.alloc (.cells #[.int .u8 0] 5)).alloc (.cells #[.slice (some ⟨w.heap.size, 0, none⟩) 1 1, .slice A p.length c] 22)) := byt_below _ _ (Nat.le_refl _)
        refine ⟨_, [(.slice (some ⟨w.heap.size, 0, none⟩) 1 1, [b8 0]), (.slice A p.length c, p)], rfl, rfl, ⟨HR2.out, fun q hq => ?_⟩, ?_, (byt_below (B := w.heap.size) w (.cells #[.int .u8 0] 5) (Nat.le_refl _)).trans (hb2.mono (by simp))⟩
        · simp only [List.mem_cons, List.not_mem_nil, or_false] at hq
          rcases hq with rfl | rfl
          · exact own_later (own_base HOM.out hb) hb2
          · exact own_later H1.out hb2
        · refine List.Pairwise.cons (fun q hq g hg hg2 => ?_) (alone_single _)
          rcases List.mem_singleton.1 hq with rfl
          have := HLT.out g hg2
          have : w.heap.size = g := by simpa [Value.ownBlock] using hg
          omega
  · have e0 : (v == 0) = false := by simpa using hv
    have hk : witB v p = (7, [[b8 v], p]) := by unfold witB; rw [if_neg (by omega), if_neg (by omega)]
    rw [hk]
    have hw8 : IntKind.u8.wrap v = v := by rw [IntKind.wrap_u8]; omega
    have hlt := fun k hk => (World.ownsRow.lt hu k hk).2
    have H1 := Lib.hid (own_later hu (byt_below w (.cells #[.int .u8 v] 5) (Nat.le_refl _)))
    have HOM := Lib.hid (own_made w 5 [.int .u8 v] [b8 v] (by rw [List.map_cons, bv_b8_of (by omega) (by omega)]; rfl) (by unfold maxLen; simp))
    have hr2 := bagrow_new (w.alloc (.cells #[.int .u8 v] 5)) base [.slice (some ⟨w.heap.size, 0, none⟩) 1 1, .slice A p.length c] (by simp; omega) (by unfold maxLen; simp)
    rw [World.size_alloc] at hr2
    have HR2 := Lib.hid hr2
    clear hr2
    have HLT := Lib.hid hlt
    clear hu hk hlt hv
    go_enter Try.func62, Try.ntmps62
    go_wp2_with fail
    go_ret2
    have hb2 : Below (w.alloc (.cells #[.int .u8 v] 5)).heap.size (w.alloc (.cells #[.int .u8 v] 5)) ((w.alloc (.cells #[.int .u8 v] 5)).alloc (.cells #[.slice (some ⟨w.heap.size, 0, none⟩) 1 1, .slice A p.length c] 22)) := byt_below _ _ (Nat.le_refl _)
    refine ⟨_, [(.slice (some ⟨w.heap.size, 0, none⟩) 1 1, [b8 v]), (.slice A p.length c, p)], rfl, rfl, ⟨HR2.out, fun q hq => ?_⟩, ?_, (byt_below (B := w.heap.size) w (.cells #[.int .u8 v] 5) (Nat.le_refl _)).trans (hb2.mono (by simp))⟩
    · simp only [List.mem_cons, List.not_mem_nil, or_false] at hq
      rcases hq with rfl | rfl
      · exact own_later (own_base HOM.out hb) hb2
      · exact own_later H1.out hb2
    · refine List.Pairwise.cons (fun q hq g hg hg2 => ?_) (alone_single _)
      rcases List.mem_singleton.1 hq with rfl
      have := HLT.out g hg2
      have : w.heap.size = g := by simpa [Value.ownBlock] using hg
      omega
end Go.Proofs.Ytpfobbhoahnebaa

/-
  script.Kind at any bytes: its parts are the call's own. Conditions: sizes within the reach.
-/
namespace Go.Proofs.Ytpfobbhoahnebaa
open Go.RowKit

theorem progB_bd {xs : List UInt8} {v : Int} {p : List UInt8} (h : progB xs = some (v, p)) : 0 ≤ v ∧ v ≤ 16 ∧ 2 ≤ p.length ∧ p.length ≤ 40 := by
  match xs, h with
  | [], h => cases h
  | [_], h => cases h
  | a :: b :: ys, h =>
    rw [progB_two] at h
    split at h
    · cases h
    · obtain ⟨rfl, rfl⟩ := Prod.mk.inj (Option.some.inj h)
      have := smallB_bd a
      exact ⟨by omega, this.2, by omega, by omega⟩
theorem parse_bad (B : Nat) (x : Value) (zs : List UInt8) (h : parseP zs = none) (w : World) (hx : Byt w B x zs) (hl : zs.length ≤ 60000000) :
    Calls Try.prog 12 #[x] w fun e w' => e = .returned (.tuple #[.slice none 0 0, .int .i64 4]) ∧ Below w.heap.size w w' := by
  refine (parse_any B x zs w hx hl).mono fun e w' hp => ?_
  unfold Parsed at hp
  rw [h] at hp
  exact hp
theorem kindB_wit {xs : List UInt8} {v : Int} {p : List UInt8} (h : progB xs = some (v, p)) : kindB xs = witB v p := by unfold kindB; rw [h]
theorem kindB_bad {xs : List UInt8} (h : progB xs = none) (h2 : parseP xs = none) : kindB xs = (0, []) := by unfold kindB; rw [h]; dsimp only; rw [h2]
theorem kindB_ops {xs : List UInt8} {ops : List (UInt8 × List UInt8)} (h : progB xs = none) (h2 : parseP xs = some ops) : kindB xs = opsB xs ops := by unfold kindB; rw [h]; dsimp only; rw [h2]
theorem kindO_no {w w' : World} {base : Nat} (hb : Below w.heap.size w w') : KindO w base (0, []) (.returned (.tuple #[.int .i64 0, .slice none 0 0])) w' := ⟨_, [], rfl, rfl, BagAt.nil _ _, List.Pairwise.nil, hb⟩
theorem kindO_of {w w' : World} {base : Nat} {k : Int × List (List UInt8)} {v : Value} {M : List (Value × List UInt8)} (h1 : M.map (·.2) = k.2) (h2 : BagAt w' base v M) (h3 : Alone M) (h4 : Below w.heap.size w w') {z : Int} (hz : z = k.1) : KindO w base k (.returned (.tuple #[.int .i64 z, v])) w' := ⟨v, M, by rw [hz], h1, h2, h3, h4⟩
theorem drew_below (B : Nat) (W : World) : Below B W W.drew := ⟨rfl, rfl, rfl, Nat.le_refl _, fun _ _ => rfl⟩

set_option maxRecDepth 100000 in
set_option maxHeartbeats 12800000 in
theorem kindA_wit (B : Nat) (x : Value) (xs : List UInt8) (v : Int) (p : List UInt8) (w : World) (hx : Byt w B x xs) (hB : B ≤ w.heap.size) (hp : progB xs = some (v, p)) :
    Calls Try.prog 26 #[x] w (KindO w w.heap.size (kindB xs)) := by
  obtain ⟨b0, b1, _, _⟩ := progB_bd hp
  have hn := prog_any B x xs w hx hB
  unfold ProgV at hn
  rw [hp] at hn
  dsimp only at hn
  rw [kindB_wit hp]
  have HN := Lib.hid hn
  obtain ⟨A, c, rfl⟩ := hx.form
  obtain ⟨k, hk⟩ : ∃ k, k = witB v p := ⟨_, rfl⟩
  have HW := Lib.hid (fun (u : Value) (W : World) (hu : OwnB W w.heap.size u p) (hb : w.heap.size ≤ W.heap.size) => wit_any w.heap.size v u p W hu hb b0 b1)
  rw [← hk] at HW ⊢
  clear hn hp hx hk
  go_enter Try.func26, Try.ntmps26
  go_wp2_with fail
  refine HN.out.mono ?_
  rintro e w1 ⟨u1, rfl, hown1, hb1⟩
  obtain ⟨A1, c1, rfl⟩ := own_form hown1
  have HO1 := Lib.hid hown1
  have HB1 := Lib.hid hb1
  clear hown1 hb1
  go_wp2_with fail
  refine (HW.out _ w1 HO1.out HB1.out.size).mono ?_
  rintro e w2 ⟨r, M, rfl, hM, hbag, hal, hb2⟩
  obtain ⟨A2, c2, rfl⟩ := hbag.form
  have HM := Lib.hid hM
  have HBAG := Lib.hid hbag
  have HAL := Lib.hid hal
  have HB2 := Lib.hid (HB1.out.trans (hb2.mono HB1.out.size))
  clear hM hbag hal hb2
  obtain ⟨n, hn⟩ : ∃ n, n = M.length := ⟨_, rfl⟩
  have HBG := Lib.hid (show ∃ v', v' = Value.slice A2 n c2 ∧ BagAt w2 w.heap.size v' M from ⟨_, rfl, by rw [hn]; exact HBAG.out⟩)
  rw [← hn]
  clear hn HBAG
  go_wp2_with fail
  go_ret2
  obtain ⟨v', hv', hbag⟩ := HBG.out
  subst hv'
  exact kindO_of HM.out hbag HAL.out HB2.out rfl

set_option maxRecDepth 100000 in
set_option maxHeartbeats 12800000 in
theorem kindA_bad (B : Nat) (x : Value) (xs : List UInt8) (w : World) (hx : Byt w B x xs) (hB : B ≤ w.heap.size) (hl : xs.length ≤ 60000000) (hp : progB xs = none) (hq : parseP xs = none) :
    Calls Try.prog 26 #[x] w (KindO w w.heap.size (kindB xs)) := by
  have hn := prog_any B x xs w hx hB
  unfold ProgV at hn
  rw [hp] at hn
  dsimp only at hn
  rw [kindB_bad hp hq]
  have HN := Lib.hid hn
  have HP := Lib.hid (fun W (hb : Below w.heap.size w W) => parse_bad B x xs hq W (hx.below (hb.mono hB)) hl)
  obtain ⟨A, c, rfl⟩ := hx.form
  clear hn hp hx hq
  go_enter Try.func26, Try.ntmps26
  go_wp2_with fail
  refine HN.out.mono ?_
  rintro e w1 ⟨rfl, hb1⟩
  have HB1 := Lib.hid hb1
  clear hb1
  go_wp2_with fail
  refine (HP.out w1 HB1.out).mono ?_
  rintro e w2 ⟨rfl, hb2⟩
  have HB2 := Lib.hid (HB1.out.trans (hb2.mono HB1.out.size))
  clear hb2
  go_wp2_with fail
  go_ret2
  exact kindO_no HB2.out

set_option maxRecDepth 100000 in
set_option maxHeartbeats 12800000 in
theorem kindA_key (B : Nat) (x : Value) (xs : List UInt8) (ops : List (UInt8 × List UInt8)) (w : World) (hx : Byt w B x xs) (hB : B ≤ w.heap.size) (hl : xs.length ≤ 60000000) (hp : progB xs = none) (hq : parseP xs = some ops) (hc : ops.map (·.1) = [118, 169, 20, 136, 172]) :
    Calls Try.prog 26 #[x] w (KindO w w.heap.size (1, [(ops.getD 2 (0, [])).2])) := by
  have d1 : decide (ops.map (·.1) = [118, 169, 20, 136, 172]) = true := by rw [hc]; decide
  have hn5 : ops.length = 5 := by have := congrArg List.length hc; simpa using this
  obtain ⟨ds, hds⟩ : ∃ ds, ds = (ops.getD 2 (0, [])).2 := ⟨_, rfl⟩
  rw [← hds]
  have HDS := Lib.hid hds
  have HN5 := Lib.hid hn5
  clear hds hn5
  have hn := prog_any B x xs w hx hB
  unfold ProgV at hn
  rw [hp] at hn
  dsimp only at hn
  have HN := Lib.hid hn
  have HP := Lib.hid (fun W (hb : Below w.heap.size w W) => parse_list B x xs ops hq W (hx.below (hb.mono hB)) hl)
  obtain ⟨A, c, rfl⟩ := hx.form
  clear hn hp hx hq
  go_enter Try.func26, Try.ntmps26
  go_wp2_with fail
  refine HN.out.mono ?_
  rintro e w1 ⟨rfl, hb1⟩
  have HB1 := Lib.hid hb1
  clear hb1
  go_wp2_with fail
  refine (HP.out w1 HB1.out).mono ?_
  rintro e w2 ⟨Av, cv, L, rfl, hL, hops, hb2⟩
  have HB2 := Lib.hid (HB1.out.trans (hb2.mono HB1.out.size))
  have hro := OpsR.of_at hops
  have hcod := codes_of hL
  have hLl : L.length = ops.length := by rw [← hL, List.length_map]
  have hm := Byt.made w2 5 [.int .u8 118, .int .u8 169, .int .u8 20, .int .u8 136, .int .u8 172] [118, 169, 20, 136, 172] rfl (by unfold maxLen; simp)
  have hbm : Below w2.heap.size w2 (w2.alloc (.cells #[.int .u8 118, .int .u8 169, .int .u8 20, .int .u8 136, .int .u8 172] 5)) := byt_below _ _ (Nat.le_refl _)
  have hck := coded_any w2.heap.size (w2.heap.size + 1) _ _ L [118, 169, 20, 136, 172] _ (hro.below hbm) hm (by simp) (by simp)
  rw [hcod, d1] at hck
  have HK := Lib.hid hck
  have HBM := Lib.hid hbm
  have hco := fun (w9 : World) (h9 : Below w2.heap.size w2 w9) => coded_any w2.heap.size (w9.heap.size + 1) _ _ L [169, 20, 135] _ ((hro.below h9).below (byt_below w9 (.cells #[.int .u8 169, .int .u8 20, .int .u8 135] 5) h9.size)) (Byt.made w9 5 [.int .u8 169, .int .u8 20, .int .u8 135] [169, 20, 135] rfl (by unfold maxLen; simp)) (by have := h9.size; simp; omega) (by simp)
  have hp2x : ∃ p, L[2]? = some p ∧ p.data = (ops.getD 2 (0, [])).2 := by
    refine piece_at hL (c := (ops.getD 2 (0, [])).1) ?_
    rw [List.getD, List.getElem?_eq_getElem (by have := HN5.out; omega)]
    rfl
  obtain ⟨p2, hp2, hd2⟩ := hp2x
  have ho2 := hops.2.1 p2 (List.mem_of_getElem? hp2)
  rw [hd2] at ho2
  obtain ⟨gb, go_, rfl, hgb, _, hcv1, hcv2, hcl⟩ := ops_cell hro (by rintro rfl; cases hp2)
  have hc2 := hcl 2 p2 hp2
  obtain ⟨pa, hpa⟩ : ∃ pa, pa = p2.at_ := ⟨_, rfl⟩
  rw [← hpa] at hc2 ho2
  rw [← HDS.out] at ho2
  obtain ⟨Ap, cp, rfl⟩ := own_form ho2
  have HO := Lib.hid ho2
  have HC2 := Lib.hid hc2
  have HGB := Lib.hid hgb
  have HCV : Hid (True) := Lib.hid trivial
  rw [HN5.out] at HK ⊢
  have hcv : 5 ≤ cv := by have := HN5.out; omega
  clear hck hco hcod hm hbm hro hops hL hb2 hp2 hd2 hpa hcl hgb hc2 hcv1 hLl hc ho2 HN HP
  go_wp2_with fail
  refine HK.out.mono ?_
  rintro e w3 ⟨rfl, hb3⟩
  have HB3 := Lib.hid (HBM.out.trans (hb3.mono (by simp)))
  clear hb3
  have hcell : w3.cell? ⟨gb, go_ + 4 + 1, none⟩ = some (.slice Ap ds.length cp) := (HB3.out.cell (p := ⟨gb, _, none⟩) HGB.out).trans HC2.out
  have hcell5 : w3.cell? ⟨gb, go_ + 5, none⟩ = some (.slice Ap ds.length cp) := hcell
  have hsz : w.heap.size ≤ w3.heap.size := Nat.le_trans HB2.out.size HB3.out.size
  have HO2 := Lib.hid (own_later (own_later (own_base HO.out HB1.out.size) HB3.out) (byt_below w3 (.cells #[.slice Ap ds.length cp] 22) (Nat.le_refl _)))
  have HR2 := Lib.hid (bagrow_new w3 w.heap.size [.slice Ap ds.length cp] hsz (by unfold maxLen; simp))
  have HBF := Lib.hid ((HB2.out.trans (HB3.out.mono HB2.out.size)).alloc hsz (.cells #[.slice Ap ds.length cp] 22))
  clear hsz
  go_wp2_with fail
  go_region
  go_wp2_with fail
  go_ret2
  exact kindO_of (M := [(.slice Ap ds.length cp, ds)]) rfl (BagAt.below ⟨HR2.out, fun q hq => by rcases List.mem_singleton.1 hq with rfl; exact HO2.out⟩ (drew_below _ _)) (alone_single _) (HBF.out.trans (drew_below _ _)) rfl

set_option maxRecDepth 100000 in
set_option maxHeartbeats 12800000 in
theorem kindA_script (B : Nat) (x : Value) (xs : List UInt8) (ops : List (UInt8 × List UInt8)) (w : World) (hx : Byt w B x xs) (hB : B ≤ w.heap.size) (hl : xs.length ≤ 60000000) (hp : progB xs = none) (hq : parseP xs = some ops) (hc : ops.map (·.1) = [169, 20, 135]) :
    Calls Try.prog 26 #[x] w (KindO w w.heap.size (2, [(ops.getD 1 (0, [])).2])) := by
  have d1 : decide (ops.map (·.1) = [118, 169, 20, 136, 172]) = false := by rw [hc]; decide
  have d2 : decide (ops.map (·.1) = [169, 20, 135]) = true := by rw [hc]; decide
  have hn5 : ops.length = 3 := by have := congrArg List.length hc; simpa using this
  obtain ⟨ds, hds⟩ : ∃ ds, ds = (ops.getD 1 (0, [])).2 := ⟨_, rfl⟩
  rw [← hds]
  have HDS := Lib.hid hds
  have HN5 := Lib.hid hn5
  clear hds hn5
  have hn := prog_any B x xs w hx hB
  unfold ProgV at hn
  rw [hp] at hn
  dsimp only at hn
  have HN := Lib.hid hn
  have HP := Lib.hid (fun W (hb : Below w.heap.size w W) => parse_list B x xs ops hq W (hx.below (hb.mono hB)) hl)
  obtain ⟨A, c, rfl⟩ := hx.form
  clear hn hp hx hq
  go_enter Try.func26, Try.ntmps26
  go_wp2_with fail
  refine HN.out.mono ?_
  rintro e w1 ⟨rfl, hb1⟩
  have HB1 := Lib.hid hb1
  clear hb1
  go_wp2_with fail
  refine (HP.out w1 HB1.out).mono ?_
  rintro e w2 ⟨Av, cv, L, rfl, hL, hops, hb2⟩
  have HB2 := Lib.hid (HB1.out.trans (hb2.mono HB1.out.size))
  have hro := OpsR.of_at hops
  have hcod := codes_of hL
  have hLl : L.length = ops.length := by rw [← hL, List.length_map]
  have hm := Byt.made w2 5 [.int .u8 118, .int .u8 169, .int .u8 20, .int .u8 136, .int .u8 172] [118, 169, 20, 136, 172] rfl (by unfold maxLen; simp)
  have hbm : Below w2.heap.size w2 (w2.alloc (.cells #[.int .u8 118, .int .u8 169, .int .u8 20, .int .u8 136, .int .u8 172] 5)) := byt_below _ _ (Nat.le_refl _)
  have hck := coded_any w2.heap.size (w2.heap.size + 1) _ _ L [118, 169, 20, 136, 172] _ (hro.below hbm) hm (by simp) (by simp)
  rw [hcod, d1] at hck
  have HK := Lib.hid hck
  have HBM := Lib.hid hbm
  have hco := fun (w9 : World) (h9 : Below w2.heap.size w2 w9) => coded_any w2.heap.size (w9.heap.size + 1) _ _ L [169, 20, 135] _ ((hro.below h9).below (byt_below w9 (.cells #[.int .u8 169, .int .u8 20, .int .u8 135] 5) h9.size)) (Byt.made w9 5 [.int .u8 169, .int .u8 20, .int .u8 135] [169, 20, 135] rfl (by unfold maxLen; simp)) (by have := h9.size; simp; omega) (by simp)
  rw [hcod, d2] at hco
  have HC := Lib.hid hco
  have hp2x : ∃ p, L[1]? = some p ∧ p.data = (ops.getD 1 (0, [])).2 := by
    refine piece_at hL (c := (ops.getD 1 (0, [])).1) ?_
    rw [List.getD, List.getElem?_eq_getElem (by have := HN5.out; omega)]
    rfl
  obtain ⟨p2, hp2, hd2⟩ := hp2x
  have ho2 := hops.2.1 p2 (List.mem_of_getElem? hp2)
  rw [hd2] at ho2
  obtain ⟨gb, go_, rfl, hgb, _, hcv1, hcv2, hcl⟩ := ops_cell hro (by rintro rfl; cases hp2)
  have hc2 := hcl 1 p2 hp2
  obtain ⟨pa, hpa⟩ : ∃ pa, pa = p2.at_ := ⟨_, rfl⟩
  rw [← hpa] at hc2 ho2
  rw [← HDS.out] at ho2
  obtain ⟨Ap, cp, rfl⟩ := own_form ho2
  have HO := Lib.hid ho2
  have HC2 := Lib.hid hc2
  have HGB := Lib.hid hgb
  have HCV : Hid (True) := Lib.hid trivial
  rw [HN5.out] at HC HK ⊢
  have hcv : 3 ≤ cv := by have := HN5.out; omega
  clear hck hco hcod hm hbm hro hops hL hb2 hp2 hd2 hpa hcl hgb hc2 hcv1 hLl hc ho2 HN HP
  go_wp2_with fail
  refine HK.out.mono ?_
  rintro e w3 ⟨rfl, hb3⟩
  have HB3 := Lib.hid (HBM.out.trans (hb3.mono (by simp)))
  clear hb3
  go_wp2_with fail
  refine (HC.out w3 HB3.out).mono ?_
  rintro e w4 ⟨rfl, hb4⟩
  have HB4 := Lib.hid ((HB3.out.alloc HB3.out.size (.cells #[.int .u8 169, .int .u8 20, .int .u8 135] 5)).trans (hb4.mono (by have := HB3.out.size; simp; omega)))
  clear hb4
  have hcell : w4.cell? ⟨gb, go_ + 2 + 1, none⟩ = some (.slice Ap ds.length cp) := (HB4.out.cell (p := ⟨gb, _, none⟩) HGB.out).trans HC2.out
  have hcell5 : w4.cell? ⟨gb, go_ + 3, none⟩ = some (.slice Ap ds.length cp) := hcell
  have hsz : w.heap.size ≤ w4.heap.size := Nat.le_trans HB2.out.size HB4.out.size
  have HO2 := Lib.hid (own_later (own_later (own_base HO.out HB1.out.size) HB4.out) (byt_below w4 (.cells #[.slice Ap ds.length cp] 22) (Nat.le_refl _)))
  have HR2 := Lib.hid (bagrow_new w4 w.heap.size [.slice Ap ds.length cp] hsz (by unfold maxLen; simp))
  have HBF := Lib.hid ((HB2.out.trans (HB4.out.mono HB2.out.size)).alloc hsz (.cells #[.slice Ap ds.length cp] 22))
  clear hsz
  go_wp2_with fail
  go_region
  go_wp2_with fail
  go_ret2
  exact kindO_of (M := [(.slice Ap ds.length cp, ds)]) rfl (BagAt.below ⟨HR2.out, fun q hq => by rcases List.mem_singleton.1 hq with rfl; exact HO2.out⟩ (drew_below _ _)) (alone_single _) (HBF.out.trans (drew_below _ _)) rfl

end Go.Proofs.Ytpfobbhoahnebaa

/-
  script.Kind at any bytes: the arms of many keys, of data, of all else. Conditions: sizes within the reach.
-/
namespace Go.Proofs.Ytpfobbhoahnebaa
open Go.RowKit

theorem parse_len {xs : List UInt8} {ops : List (UInt8 × List UInt8)} (h : parseP xs = some ops) : ops.length ≤ xs.length := by
  induction ops generalizing xs with
  | nil => simp
  | cons o ops ih =>
    obtain ⟨c, rest, hx, _, h1, _⟩ := parse_first h
    have h2 := ih h1
    have h3 := opR_rest c rest
    rw [hx, List.length_cons, List.length_cons]
    omega
theorem multiB_yes {cs : List UInt8} (h : multiB cs = true) : 4 ≤ cs.length ∧ 1 ≤ smallB (cs.getD 0 0) := by
  unfold multiB at h
  split at h
  · cases h
  · simp only [Bool.and_eq_true, decide_eq_true_eq] at h
    exact ⟨by omega, h.1.1.2⟩
theorem keys_of {L : List Piece} {ops : List (UInt8 × List UInt8)} (h : L.map Piece.pair = ops) {N : Nat} (hN : ops.length = N + 3) {p0 : Piece} (hp : L[0]? = some p0) (a0 : Value) : (partsL a0 (smallB p0.code) ((L.drop 1).take N)).map (·.2) = keysB ops := by
  have hc := codes_of h
  unfold partsL keysB
  rw [← hc, code_at hp, hN, show N + 3 - 3 = N by omega, List.map_cons, List.map_map, ← h, ← List.map_drop, ← List.map_take, List.map_map]
  rfl
set_option maxRecDepth 100000 in
set_option maxHeartbeats 12800000 in
theorem kindA_multi (B : Nat) (x : Value) (xs : List UInt8) (ops : List (UInt8 × List UInt8)) (w : World) (hx : Byt w B x xs) (hB : B ≤ w.heap.size) (hl : xs.length ≤ 60000000) (hp : progB xs = none) (hq : parseP xs = some ops) (hk1 : ops.map (·.1) ≠ [118, 169, 20, 136, 172]) (hk2 : ops.map (·.1) ≠ [169, 20, 135]) (hmb : multiB (ops.map (·.1)) = true) :
    Calls Try.prog 26 #[x] w (KindO w w.heap.size (5, keysB ops)) := by
  have d1 : decide (ops.map (·.1) = [118, 169, 20, 136, 172]) = false := decide_eq_false hk1
  have d2 : decide (ops.map (·.1) = [169, 20, 135]) = false := decide_eq_false hk2
  obtain ⟨hm4, hm1⟩ := multiB_yes hmb
  rw [List.length_map] at hm4
  have hpl := parse_len hq
  obtain ⟨N, hN⟩ : ∃ N, ops.length = N + 3 := ⟨ops.length - 3, by omega⟩
  have HNN := Lib.hid hN
  have HPL := Lib.hid (Nat.le_trans hpl hl)
  have HM1 := Lib.hid hm1
  have HMB := Lib.hid hmb
  clear hm4 hm1 hpl hN hk1 hk2 hmb
  have hn := prog_any B x xs w hx hB
  unfold ProgV at hn
  rw [hp] at hn
  dsimp only at hn
  have HN := Lib.hid hn
  have HP := Lib.hid (fun W (hb : Below w.heap.size w W) => parse_list B x xs ops hq W (hx.below (hb.mono hB)) hl)
  obtain ⟨A, c, rfl⟩ := hx.form
  clear hn hp hx hq
  go_enter Try.func26, Try.ntmps26
  go_wp2_with fail
  refine HN.out.mono ?_
  rintro e w1 ⟨rfl, hb1⟩
  have HB1 := Lib.hid hb1
  clear hb1
  go_wp2_with fail
  refine (HP.out w1 HB1.out).mono ?_
  rintro e w2 ⟨Av, cv, L, rfl, hL, hops, hb2⟩
  have HB2 := Lib.hid (HB1.out.trans (hb2.mono HB1.out.size))
  have hro := OpsR.of_at hops
  have hcod := codes_of hL
  have hLl : L.length = ops.length := by rw [← hL, List.length_map]
  have hm := Byt.made w2 5 [.int .u8 118, .int .u8 169, .int .u8 20, .int .u8 136, .int .u8 172] [118, 169, 20, 136, 172] rfl (by unfold maxLen; simp)
  have hbm : Below w2.heap.size w2 (w2.alloc (.cells #[.int .u8 118, .int .u8 169, .int .u8 20, .int .u8 136, .int .u8 172] 5)) := byt_below _ _ (Nat.le_refl _)
  have hck := coded_any w2.heap.size (w2.heap.size + 1) _ _ L [118, 169, 20, 136, 172] _ (hro.below hbm) hm (by simp) (by simp)
  rw [hcod, d1] at hck
  have HK := Lib.hid hck
  have HBM := Lib.hid hbm
  have hco := fun (w9 : World) (h9 : Below w2.heap.size w2 w9) => coded_any w2.heap.size (w9.heap.size + 1) _ _ L [169, 20, 135] _ ((hro.below h9).below (byt_below w9 (.cells #[.int .u8 169, .int .u8 20, .int .u8 135] 5) h9.size)) (Byt.made w9 5 [.int .u8 169, .int .u8 20, .int .u8 135] [169, 20, 135] rfl (by unfold maxLen; simp)) (by have := h9.size; simp; omega) (by simp)
  rw [hcod, d2] at hco
  have HC := Lib.hid hco
  have hmu := fun (w9 : World) (h9 : Below w2.heap.size w2 w9) => multi_any w2.heap.size _ L w9 (hro.below h9) h9.size (by rw [hLl]; exact HPL.out)
  rw [hcod, HMB.out] at hmu
  have HMU := Lib.hid hmu
  obtain ⟨p0, hp0⟩ : ∃ p, L[0]? = some p := ⟨_, List.getElem?_eq_getElem (by have := HNN.out; omega)⟩
  have hs0 : 1 ≤ smallB p0.code := by have := HM1.out; rw [← hcod, code_at hp0] at this; exact this
  have hmp := fun (w9 : World) (h9 : Below w2.heap.size w2 w9) => multiOwn_any w2.heap.size N _ L p0 w9 (hro.below h9) (fun p hp => (Byt.of_own (hops.2.1 p hp)).below h9) h9.size (by rw [hLl]; exact HNN.out) (by have := HNN.out; have := HPL.out; omega) hp0 hs0
  have HMP := Lib.hid hmp
  have HKEY := Lib.hid (fun a0 => keys_of hL HNN.out hp0 a0)
  have HOPS := Lib.hid hops
  have HLL := Lib.hid hLl
  obtain ⟨Q, hQ⟩ : ∃ Q, Q = ops.length := ⟨_, rfl⟩
  rw [← hQ] at HK HC HMU HMP HOPS ⊢
  clear hmp hmu hck hco hcod hm hbm hro hops hL hb2 HN HP hp0 hs0 hLl hQ d1 d2
  go_wp2_with fail
  refine HK.out.mono ?_
  rintro e w3 ⟨rfl, hb3⟩
  have HB3 := Lib.hid (HBM.out.trans (hb3.mono (by simp)))
  clear hb3
  go_wp2_with fail
  refine (HC.out w3 HB3.out).mono ?_
  rintro e w4 ⟨rfl, hb4⟩
  have HB4 := Lib.hid ((HB3.out.alloc HB3.out.size (.cells #[.int .u8 169, .int .u8 20, .int .u8 135] 5)).trans (hb4.mono (by have := HB3.out.size; simp; omega)))
  clear hb4
  go_wp2_with fail
  refine (HMU.out w4 HB4.out).mono ?_
  rintro e w5 ⟨rfl, hb5⟩
  have HB5 := Lib.hid (HB4.out.trans (hb5.mono HB4.out.size))
  clear hb5
  go_wp2_with fail
  refine (HMP.out w5 HB5.out).mono ?_
  rintro e w6 ⟨v6, a0, rfl, hrow, ha0, hab, hb6⟩
  obtain ⟨A6, c6, rfl⟩ := own_form hrow
  have HROW := Lib.hid hrow
  have HA0 := Lib.hid ha0
  have HAB := Lib.hid hab
  have HB6 := Lib.hid (HB5.out.trans (hb6.mono HB5.out.size))
  have HB56 := Lib.hid hb6
  clear hrow ha0 hab hb6
  go_wp2_with fail
  go_ret2
  obtain ⟨M, hM⟩ : ∃ M, M = (L.drop 1).take N := ⟨_, rfl⟩
  have hrow := HROW.out
  have hkey := HKEY.out a0
  rw [← hM] at hrow hkey
  have hmem : ∀ p ∈ M, p ∈ L := fun p hp => by rw [hM] at hp; exact List.mem_of_mem_drop (List.mem_of_mem_take hp)
  have hMl : M.length = N := by rw [hM]; have := HLL.out; have := HNN.out; simp; omega
  have s5 : w.heap.size ≤ w5.heap.size := Nat.le_trans HB2.out.size HB5.out.size
  refine kindO_of (M := partsL a0 (smallB p0.code) M) hkey ⟨?_, ?_⟩ ?_ (HB2.out.trans (HB6.out.mono HB2.out.size)) rfl
  · have hpl : (partsL a0 (smallB p0.code) M).length = N + 1 := by unfold partsL; simp [hMl]
    rw [hpl]
    exact own_base hrow (by omega)
  · intro p hp
    unfold partsL at hp
    rcases List.mem_cons.1 hp with rfl | hp
    · exact own_base HA0.out s5
    · obtain ⟨q, hq, rfl⟩ := List.mem_map.1 hp
      exact own_later (own_base (HOPS.out.2.1 q (hmem q hq)) HB1.out.size) HB6.out
  · unfold partsL
    refine List.Pairwise.cons (fun q hq g hg hg2 => ?_) ?_
    · obtain ⟨r, hr, rfl⟩ := List.mem_map.1 hq
      have h1 := (World.ownsRow.lt (HOPS.out.2.1 r (hmem r hr)) g hg2).2
      have h2 := HB5.out.size
      have h3 : w5.heap.size = g := by rw [HAB.out] at hg; exact Option.some.inj hg
      omega
    · rw [List.pairwise_map, hM]
      exact List.Pairwise.sublist ((List.take_sublist _ _).trans (List.drop_sublist _ _)) HOPS.out.2.2

end Go.Proofs.Ytpfobbhoahnebaa

/-
  script.Kind at any bytes: the arm of data and of all else; the whole. Conditions: sizes within the reach.
-/
namespace Go.Proofs.Ytpfobbhoahnebaa
open Go.RowKit

/-- All bytes but the first. -/
theorem byt_tail {w : World} {B gb o n c : Nat} {a : UInt8} {t : List UInt8} (h : Byt w B (.slice (some ⟨gb, o, none⟩) n c) (a :: t)) :
    Byt w B (.slice (if c = 1 then some ⟨gb, o, none⟩ else some ⟨gb, o + 1, none⟩) t.length (c - 1)) t ∧ ∀ W, (Instr.slice 22 (.slice (some ⟨gb, o, none⟩) (t.length + 1) c) (some (.int .i64 1)) none none).run Try.prog W = .ok (.slice (if c = 1 then some ⟨gb, o, none⟩ else some ⟨gb, o + 1, none⟩) t.length (c - 1)) W := by
  obtain ⟨A', c', e, h1, hm, _, h4⟩ := h
  obtain ⟨e1, _, e3⟩ := Value.slice.inj e
  subst e1 e3
  obtain ⟨gb', o', e', hb, hc⟩ := h4 (by simp)
  injection e' with e'
  obtain ⟨x1, x2, _⟩ := Addr.mk.inj e'
  subst x1 x2
  rw [List.length_cons] at h1
  refine ⟨⟨_, _, rfl, by omega, by omega, (by intro h; split at h <;> cases h), fun hne => ?_⟩, fun W => ?_⟩
  · have hpos : 0 < t.length := List.length_pos_iff.2 hne
    rw [if_neg (by omega)]
    refine ⟨gb, o + 1, rfl, hb, fun j u hu => ?_⟩
    have := hc (j + 1) u (by simpa using hu)
    rw [show o + 1 + j = o + (j + 1) by omega]
    exact this
  · have := run_from (some ⟨gb, o, none⟩) (t.length + 1) c 1 (by omega) W
    have hadd : (⟨gb, o, none⟩ : Addr).add 1 = ⟨gb, o + 1, none⟩ := by unfold Addr.add; split <;> simp_all
    rw [Option.map_some, hadd, Nat.add_sub_cancel] at this
    exact this
theorem dataB_cons (c : UInt8) (t : List UInt8) : dataB (c :: t) = if c = 106 ∧ pushesB t = true then (6, [t]) else (0, []) := rfl

set_option maxRecDepth 100000 in
set_option maxHeartbeats 12800000 in
theorem kindA_none (B : Nat) (x : Value) (xs : List UInt8) (ops : List (UInt8 × List UInt8)) (w : World) (hx : Byt w B x xs) (hB : B ≤ w.heap.size) (hl : xs.length ≤ 60000000) (hp : progB xs = none) (hq : parseP xs = some ops) (hk1 : ops.map (·.1) ≠ [118, 169, 20, 136, 172]) (hk2 : ops.map (·.1) ≠ [169, 20, 135]) (hmb : multiB (ops.map (·.1)) = false) (hxs : xs = []) :
    Calls Try.prog 26 #[x] w (KindO w w.heap.size (0, [])) := by
  have hxl : xs.length = 0 := by rw [hxs]; rfl
  clear hxs
  have d1 : decide (ops.map (·.1) = [118, 169, 20, 136, 172]) = false := decide_eq_false hk1
  have d2 : decide (ops.map (·.1) = [169, 20, 135]) = false := decide_eq_false hk2
  have hpl := parse_len hq
  have HPL := Lib.hid (Nat.le_trans hpl hl)
  have HMB := Lib.hid hmb
  clear hpl hk1 hk2 hmb
  have hn := prog_any B x xs w hx hB
  unfold ProgV at hn
  rw [hp] at hn
  dsimp only at hn
  have HN := Lib.hid hn
  have HP := Lib.hid (fun W (hb : Below w.heap.size w W) => parse_list B x xs ops hq W (hx.below (hb.mono hB)) hl)
  obtain ⟨A, c, rfl⟩ := hx.form
  rw [hxl] at HN HP ⊢
  clear hxl
  clear hn hp hx hq
  go_enter Try.func26, Try.ntmps26
  go_wp2_with fail
  refine HN.out.mono ?_
  rintro e w1 ⟨rfl, hb1⟩
  have HB1 := Lib.hid hb1
  clear hb1
  go_wp2_with fail
  refine (HP.out w1 HB1.out).mono ?_
  rintro e w2 ⟨Av, cv, L, rfl, hL, hops, hb2⟩
  have HB2 := Lib.hid (HB1.out.trans (hb2.mono HB1.out.size))
  have hro := OpsR.of_at hops
  have hcod := codes_of hL
  have hLl : L.length = ops.length := by rw [← hL, List.length_map]
  have hm := Byt.made w2 5 [.int .u8 118, .int .u8 169, .int .u8 20, .int .u8 136, .int .u8 172] [118, 169, 20, 136, 172] rfl (by unfold maxLen; simp)
  have hbm : Below w2.heap.size w2 (w2.alloc (.cells #[.int .u8 118, .int .u8 169, .int .u8 20, .int .u8 136, .int .u8 172] 5)) := byt_below _ _ (Nat.le_refl _)
  have hck := coded_any w2.heap.size (w2.heap.size + 1) _ _ L [118, 169, 20, 136, 172] _ (hro.below hbm) hm (by simp) (by simp)
  rw [hcod, d1] at hck
  have HK := Lib.hid hck
  have HBM := Lib.hid hbm
  have hco := fun (w9 : World) (h9 : Below w2.heap.size w2 w9) => coded_any w2.heap.size (w9.heap.size + 1) _ _ L [169, 20, 135] _ ((hro.below h9).below (byt_below w9 (.cells #[.int .u8 169, .int .u8 20, .int .u8 135] 5) h9.size)) (Byt.made w9 5 [.int .u8 169, .int .u8 20, .int .u8 135] [169, 20, 135] rfl (by unfold maxLen; simp)) (by have := h9.size; simp; omega) (by simp)
  rw [hcod, d2] at hco
  have HC := Lib.hid hco
  have hmu := fun (w9 : World) (h9 : Below w2.heap.size w2 w9) => multi_any w2.heap.size _ L w9 (hro.below h9) h9.size (by rw [hLl]; exact HPL.out)
  rw [hcod, HMB.out] at hmu
  have HMU := Lib.hid hmu
  clear hmu hck hco hcod hm hbm hro hops hL hb2 HN HP hLl d1 d2
  go_wp2_with fail
  refine HK.out.mono ?_
  rintro e w3 ⟨rfl, hb3⟩
  have HB3 := Lib.hid (HBM.out.trans (hb3.mono (by simp)))
  clear hb3
  go_wp2_with fail
  refine (HC.out w3 HB3.out).mono ?_
  rintro e w4 ⟨rfl, hb4⟩
  have HB4 := Lib.hid ((HB3.out.alloc HB3.out.size (.cells #[.int .u8 169, .int .u8 20, .int .u8 135] 5)).trans (hb4.mono (by have := HB3.out.size; simp; omega)))
  clear hb4
  go_wp2_with fail
  refine (HMU.out w4 HB4.out).mono ?_
  rintro e w5 ⟨rfl, hb5⟩
  have HB5 := Lib.hid (HB2.out.trans ((HB4.out.trans (hb5.mono HB4.out.size)).mono HB2.out.size))
  clear hb5
  go_wp2_with fail
  go_ret2
  exact kindO_no HB5.out

set_option maxRecDepth 100000 in
set_option maxHeartbeats 12800000 in
theorem kindA_else (B : Nat) (x : Value) (ops : List (UInt8 × List UInt8)) (w : World) (a : UInt8) (t : List UInt8) (hx : Byt w B x (a :: t)) (h6 : a ≠ 106) (hB : B ≤ w.heap.size) (hl : (a :: t).length ≤ 60000000) (hp : progB (a :: t) = none) (hq : parseP (a :: t) = some ops) (hk1 : ops.map (·.1) ≠ [118, 169, 20, 136, 172]) (hk2 : ops.map (·.1) ≠ [169, 20, 135]) (hmb : multiB (ops.map (·.1)) = false) :
    Calls Try.prog 26 #[x] w (KindO w w.heap.size (0, [])) := by
  have e6 : ((a.toNat : Int) == 106) = false := by
    simp only [beq_eq_false_iff_ne, ne_eq]
    intro h
    exact h6 (u8_ext (by show a.toNat = 106; omega))
  have hz : ∃ gb o c, x = .slice (some ⟨gb, o, none⟩) (t.length + 1) c ∧ gb < B ∧ w.cell? ⟨gb, o, none⟩ = some (.int .u8 (a.toNat : Int)) := by
    obtain ⟨A, c, rfl, _, _, _, h4⟩ := hx
    obtain ⟨gb, o, rfl, hb, hc⟩ := h4 (by simp)
    exact ⟨gb, o, c, rfl, hb, hc 0 a rfl⟩
  obtain ⟨gb, o, cc, rfl, hgb, hcell⟩ := hz
  have HGB := Lib.hid hgb
  have HCELL := Lib.hid hcell
  have d0 : (0 : Int) < (t.length : Int) + 1 := by omega
  obtain ⟨xs, hxs⟩ : ∃ xs : List UInt8, xs = a :: t := ⟨_, rfl⟩
  have hxl : xs.length = t.length + 1 := by rw [hxs]; rfl
  rw [← hxs] at hx hl hp hq
  have HXL := Lib.hid hxl
  obtain ⟨n, hnt⟩ : ∃ n, n = t.length := ⟨_, rfl⟩
  rw [← hnt] at hx d0 hxl ⊢
  have d00 : decide ((0 : Int) < (n : Int) + 1) = true := decide_eq_true d0
  clear hxs hxl hgb hcell hnt
  clear h6
  have d1 : decide (ops.map (·.1) = [118, 169, 20, 136, 172]) = false := decide_eq_false hk1
  have d2 : decide (ops.map (·.1) = [169, 20, 135]) = false := decide_eq_false hk2
  have hpl := parse_len hq
  have HPL := Lib.hid (Nat.le_trans hpl hl)
  have HMB := Lib.hid hmb
  clear hpl hk1 hk2 hmb
  have hn := prog_any B _ xs w hx hB
  unfold ProgV at hn
  rw [hp] at hn
  dsimp only at hn
  have HN := Lib.hid hn
  have HP := Lib.hid (fun W (hb : Below w.heap.size w W) => parse_list B _ xs ops hq W (hx.below (hb.mono hB)) hl)
  clear hn hp hx hq
  go_enter Try.func26, Try.ntmps26
  go_wp2_with fail
  refine HN.out.mono ?_
  rintro e w1 ⟨rfl, hb1⟩
  have HB1 := Lib.hid hb1
  clear hb1
  go_wp2_with fail
  refine (HP.out w1 HB1.out).mono ?_
  rintro e w2 ⟨Av, cv, L, rfl, hL, hops, hb2⟩
  have HB2 := Lib.hid (HB1.out.trans (hb2.mono HB1.out.size))
  have hro := OpsR.of_at hops
  have hcod := codes_of hL
  have hLl : L.length = ops.length := by rw [← hL, List.length_map]
  have hm := Byt.made w2 5 [.int .u8 118, .int .u8 169, .int .u8 20, .int .u8 136, .int .u8 172] [118, 169, 20, 136, 172] rfl (by unfold maxLen; simp)
  have hbm : Below w2.heap.size w2 (w2.alloc (.cells #[.int .u8 118, .int .u8 169, .int .u8 20, .int .u8 136, .int .u8 172] 5)) := byt_below _ _ (Nat.le_refl _)
  have hck := coded_any w2.heap.size (w2.heap.size + 1) _ _ L [118, 169, 20, 136, 172] _ (hro.below hbm) hm (by simp) (by simp)
  rw [hcod, d1] at hck
  have HK := Lib.hid hck
  have HBM := Lib.hid hbm
  have hco := fun (w9 : World) (h9 : Below w2.heap.size w2 w9) => coded_any w2.heap.size (w9.heap.size + 1) _ _ L [169, 20, 135] _ ((hro.below h9).below (byt_below w9 (.cells #[.int .u8 169, .int .u8 20, .int .u8 135] 5) h9.size)) (Byt.made w9 5 [.int .u8 169, .int .u8 20, .int .u8 135] [169, 20, 135] rfl (by unfold maxLen; simp)) (by have := h9.size; simp; omega) (by simp)
  rw [hcod, d2] at hco
  have HC := Lib.hid hco
  have hmu := fun (w9 : World) (h9 : Below w2.heap.size w2 w9) => multi_any w2.heap.size _ L w9 (hro.below h9) h9.size (by rw [hLl]; exact HPL.out)
  rw [hcod, HMB.out] at hmu
  have HMU := Lib.hid hmu
  clear hmu hck hco hcod hm hbm hro hops hL hb2 HN HP hLl d1 d2
  go_wp2_with fail
  refine HK.out.mono ?_
  rintro e w3 ⟨rfl, hb3⟩
  have HB3 := Lib.hid (HBM.out.trans (hb3.mono (by simp)))
  clear hb3
  go_wp2_with fail
  refine (HC.out w3 HB3.out).mono ?_
  rintro e w4 ⟨rfl, hb4⟩
  have HB4 := Lib.hid ((HB3.out.alloc HB3.out.size (.cells #[.int .u8 169, .int .u8 20, .int .u8 135] 5)).trans (hb4.mono (by have := HB3.out.size; simp; omega)))
  clear hb4
  go_wp2_with fail
  refine (HMU.out w4 HB4.out).mono ?_
  rintro e w5 ⟨rfl, hb5⟩
  have HB5 := Lib.hid (HB2.out.trans ((HB4.out.trans (hb5.mono HB4.out.size)).mono HB2.out.size))
  clear hb5
  have hcell := (HB5.out.cell (p := ⟨gb, o, none⟩) (by have := HGB.out; show gb < _; omega)).trans HCELL.out
  go_wp2_with fail
  go_ret2
  exact kindO_no HB5.out

set_option maxRecDepth 100000 in
set_option maxHeartbeats 12800000 in
theorem kindA_held (B : Nat) (x : Value) (ops : List (UInt8 × List UInt8)) (w : World) (t : List UInt8) (hx : Byt w B x (106 :: t)) (h6 : pushesB t = false) (hB : B ≤ w.heap.size) (hl : ((106 : UInt8) :: t).length ≤ 60000000) (hp : progB ((106 : UInt8) :: t) = none) (hq : parseP ((106 : UInt8) :: t) = some ops) (hk1 : ops.map (·.1) ≠ [118, 169, 20, 136, 172]) (hk2 : ops.map (·.1) ≠ [169, 20, 135]) (hmb : multiB (ops.map (·.1)) = false) :
    Calls Try.prog 26 #[x] w (KindO w w.heap.size (0, [])) := by
  obtain ⟨a, ha⟩ : ∃ a : UInt8, a = 106 := ⟨_, rfl⟩
  rw [← ha] at hx hl hp hq
  have ha6 : (a.toNat : Int) = 106 := by rw [ha]; rfl
  clear ha
  have hz : ∃ gb o c, x = .slice (some ⟨gb, o, none⟩) (t.length + 1) c ∧ gb < B ∧ w.cell? ⟨gb, o, none⟩ = some (.int .u8 (a.toNat : Int)) := by
    obtain ⟨A, c, rfl, _, _, _, h4⟩ := hx
    obtain ⟨gb, o, rfl, hb, hc⟩ := h4 (by simp)
    exact ⟨gb, o, c, rfl, hb, hc 0 a rfl⟩
  obtain ⟨gb, o, cc, rfl, hgb, hcell⟩ := hz
  have HGB := Lib.hid hgb
  have HCELL := Lib.hid hcell
  have d0 : (0 : Int) < (t.length : Int) + 1 := by omega
  obtain ⟨htl, hsl⟩ := byt_tail hx
  have HTL := Lib.hid htl
  obtain ⟨At, hAt⟩ : ∃ At, At = (if cc = 1 then some (⟨gb, o, none⟩ : Addr) else some ⟨gb, o + 1, none⟩) := ⟨_, rfl⟩
  rw [← hAt] at HTL
  simp only [← hAt] at hsl
  have HPU := Lib.hid (fun W (hb : Below w.heap.size w W) => pushes_any B _ t W (HTL.out.below (hb.mono hB)) (by simp at hl; omega))
  rw [h6] at HPU
  have htn : t.length ≤ 60000000 := by simp at hl; omega
  have HTN := Lib.hid htn
  clear htl hAt h6 htn
  obtain ⟨xs, hxs⟩ : ∃ xs : List UInt8, xs = a :: t := ⟨_, rfl⟩
  have hxl : xs.length = t.length + 1 := by rw [hxs]; rfl
  rw [← hxs] at hx hl hp hq
  have HXL := Lib.hid hxl
  obtain ⟨n, hnt⟩ : ∃ n, n = t.length := ⟨_, rfl⟩
  rw [← hnt] at hx d0 hxl HTL hsl HPU ⊢
  have d00 : decide ((0 : Int) < (n : Int) + 1) = true := decide_eq_true d0
  clear hxs hxl hgb hcell hnt
  rw [ha6] at HCELL
  clear ha6
  have d1 : decide (ops.map (·.1) = [118, 169, 20, 136, 172]) = false := decide_eq_false hk1
  have d2 : decide (ops.map (·.1) = [169, 20, 135]) = false := decide_eq_false hk2
  have hpl := parse_len hq
  have HPL := Lib.hid (Nat.le_trans hpl hl)
  have HMB := Lib.hid hmb
  clear hpl hk1 hk2 hmb
  have hn := prog_any B _ xs w hx hB
  unfold ProgV at hn
  rw [hp] at hn
  dsimp only at hn
  have HN := Lib.hid hn
  have HP := Lib.hid (fun W (hb : Below w.heap.size w W) => parse_list B _ xs ops hq W (hx.below (hb.mono hB)) hl)
  clear hn hp hx hq
  go_enter Try.func26, Try.ntmps26
  go_wp2_with fail
  refine HN.out.mono ?_
  rintro e w1 ⟨rfl, hb1⟩
  have HB1 := Lib.hid hb1
  clear hb1
  go_wp2_with fail
  refine (HP.out w1 HB1.out).mono ?_
  rintro e w2 ⟨Av, cv, L, rfl, hL, hops, hb2⟩
  have HB2 := Lib.hid (HB1.out.trans (hb2.mono HB1.out.size))
  have hro := OpsR.of_at hops
  have hcod := codes_of hL
  have hLl : L.length = ops.length := by rw [← hL, List.length_map]
  have hm := Byt.made w2 5 [.int .u8 118, .int .u8 169, .int .u8 20, .int .u8 136, .int .u8 172] [118, 169, 20, 136, 172] rfl (by unfold maxLen; simp)
  have hbm : Below w2.heap.size w2 (w2.alloc (.cells #[.int .u8 118, .int .u8 169, .int .u8 20, .int .u8 136, .int .u8 172] 5)) := byt_below _ _ (Nat.le_refl _)
  have hck := coded_any w2.heap.size (w2.heap.size + 1) _ _ L [118, 169, 20, 136, 172] _ (hro.below hbm) hm (by simp) (by simp)
  rw [hcod, d1] at hck
  have HK := Lib.hid hck
  have HBM := Lib.hid hbm
  have hco := fun (w9 : World) (h9 : Below w2.heap.size w2 w9) => coded_any w2.heap.size (w9.heap.size + 1) _ _ L [169, 20, 135] _ ((hro.below h9).below (byt_below w9 (.cells #[.int .u8 169, .int .u8 20, .int .u8 135] 5) h9.size)) (Byt.made w9 5 [.int .u8 169, .int .u8 20, .int .u8 135] [169, 20, 135] rfl (by unfold maxLen; simp)) (by have := h9.size; simp; omega) (by simp)
  rw [hcod, d2] at hco
  have HC := Lib.hid hco
  have hmu := fun (w9 : World) (h9 : Below w2.heap.size w2 w9) => multi_any w2.heap.size _ L w9 (hro.below h9) h9.size (by rw [hLl]; exact HPL.out)
  rw [hcod, HMB.out] at hmu
  have HMU := Lib.hid hmu
  clear hmu hck hco hcod hm hbm hro hops hL hb2 HN HP hLl d1 d2
  go_wp2_with fail
  refine HK.out.mono ?_
  rintro e w3 ⟨rfl, hb3⟩
  have HB3 := Lib.hid (HBM.out.trans (hb3.mono (by simp)))
  clear hb3
  go_wp2_with fail
  refine (HC.out w3 HB3.out).mono ?_
  rintro e w4 ⟨rfl, hb4⟩
  have HB4 := Lib.hid ((HB3.out.alloc HB3.out.size (.cells #[.int .u8 169, .int .u8 20, .int .u8 135] 5)).trans (hb4.mono (by have := HB3.out.size; simp; omega)))
  clear hb4
  go_wp2_with fail
  refine (HMU.out w4 HB4.out).mono ?_
  rintro e w5 ⟨rfl, hb5⟩
  have HB5 := Lib.hid (HB2.out.trans ((HB4.out.trans (hb5.mono HB4.out.size)).mono HB2.out.size))
  clear hb5
  have hcell : w5.cell? ⟨gb, o, none⟩ = some (.int .u8 106) := (HB5.out.cell (p := ⟨gb, o, none⟩) (by have := HGB.out; show gb < _; omega)).trans HCELL.out
  go_wp2_with fail
  refine (HPU.out w5 HB5.out).mono ?_
  rintro e w6 ⟨rfl, hb6⟩
  have HB6 := Lib.hid (HB5.out.trans (hb6.mono HB5.out.size))
  clear hb6 hcell
  go_wp2_with fail
  go_ret2
  exact kindO_no HB6.out

set_option maxRecDepth 100000 in
set_option maxHeartbeats 12800000 in
theorem kindA_data (B : Nat) (x : Value) (ops : List (UInt8 × List UInt8)) (w : World) (t : List UInt8) (hx : Byt w B x (106 :: t)) (h6 : pushesB t = true) (hB : B ≤ w.heap.size) (hl : ((106 : UInt8) :: t).length ≤ 60000000) (hp : progB ((106 : UInt8) :: t) = none) (hq : parseP ((106 : UInt8) :: t) = some ops) (hk1 : ops.map (·.1) ≠ [118, 169, 20, 136, 172]) (hk2 : ops.map (·.1) ≠ [169, 20, 135]) (hmb : multiB (ops.map (·.1)) = false) :
    Calls Try.prog 26 #[x] w (KindO w w.heap.size (6, [t])) := by
  obtain ⟨a, ha⟩ : ∃ a : UInt8, a = 106 := ⟨_, rfl⟩
  rw [← ha] at hx hl hp hq
  have ha6 : (a.toNat : Int) = 106 := by rw [ha]; rfl
  clear ha
  have hz : ∃ gb o c, x = .slice (some ⟨gb, o, none⟩) (t.length + 1) c ∧ gb < B ∧ w.cell? ⟨gb, o, none⟩ = some (.int .u8 (a.toNat : Int)) := by
    obtain ⟨A, c, rfl, _, _, _, h4⟩ := hx
    obtain ⟨gb, o, rfl, hb, hc⟩ := h4 (by simp)
    exact ⟨gb, o, c, rfl, hb, hc 0 a rfl⟩
  obtain ⟨gb, o, cc, rfl, hgb, hcell⟩ := hz
  have HGB := Lib.hid hgb
  have HCELL := Lib.hid hcell
  have d0 : (0 : Int) < (t.length : Int) + 1 := by omega
  obtain ⟨htl, hsl⟩ := byt_tail hx
  have HTL := Lib.hid htl
  obtain ⟨At, hAt⟩ : ∃ At, At = (if cc = 1 then some (⟨gb, o, none⟩ : Addr) else some ⟨gb, o + 1, none⟩) := ⟨_, rfl⟩
  rw [← hAt] at HTL
  simp only [← hAt] at hsl
  have HPU := Lib.hid (fun W (hb : Below w.heap.size w W) => pushes_any B _ t W (HTL.out.below (hb.mono hB)) (by simp at hl; omega))
  rw [h6] at HPU
  have htn : t.length ≤ 60000000 := by simp at hl; omega
  have HTN := Lib.hid htn
  clear htl hAt h6 htn
  obtain ⟨xs, hxs⟩ : ∃ xs : List UInt8, xs = a :: t := ⟨_, rfl⟩
  have hxl : xs.length = t.length + 1 := by rw [hxs]; rfl
  rw [← hxs] at hx hl hp hq
  have HXL := Lib.hid hxl
  obtain ⟨n, hnt⟩ : ∃ n, n = t.length := ⟨_, rfl⟩
  rw [← hnt] at hx d0 hxl HTL hsl HPU ⊢
  have d00 : decide ((0 : Int) < (n : Int) + 1) = true := decide_eq_true d0
  clear hxs hxl hgb hcell hnt
  rw [ha6] at HCELL
  clear ha6
  have d1 : decide (ops.map (·.1) = [118, 169, 20, 136, 172]) = false := decide_eq_false hk1
  have d2 : decide (ops.map (·.1) = [169, 20, 135]) = false := decide_eq_false hk2
  have hpl := parse_len hq
  have HPL := Lib.hid (Nat.le_trans hpl hl)
  have HMB := Lib.hid hmb
  clear hpl hk1 hk2 hmb
  have hn := prog_any B _ xs w hx hB
  unfold ProgV at hn
  rw [hp] at hn
  dsimp only at hn
  have HN := Lib.hid hn
  have HP := Lib.hid (fun W (hb : Below w.heap.size w W) => parse_list B _ xs ops hq W (hx.below (hb.mono hB)) hl)
  clear hn hp hx hq
  go_enter Try.func26, Try.ntmps26
  go_wp2_with fail
  refine HN.out.mono ?_
  rintro e w1 ⟨rfl, hb1⟩
  have HB1 := Lib.hid hb1
  clear hb1
  go_wp2_with fail
  refine (HP.out w1 HB1.out).mono ?_
  rintro e w2 ⟨Av, cv, L, rfl, hL, hops, hb2⟩
  have HB2 := Lib.hid (HB1.out.trans (hb2.mono HB1.out.size))
  have hro := OpsR.of_at hops
  have hcod := codes_of hL
  have hLl : L.length = ops.length := by rw [← hL, List.length_map]
  have hm := Byt.made w2 5 [.int .u8 118, .int .u8 169, .int .u8 20, .int .u8 136, .int .u8 172] [118, 169, 20, 136, 172] rfl (by unfold maxLen; simp)
  have hbm : Below w2.heap.size w2 (w2.alloc (.cells #[.int .u8 118, .int .u8 169, .int .u8 20, .int .u8 136, .int .u8 172] 5)) := byt_below _ _ (Nat.le_refl _)
  have hck := coded_any w2.heap.size (w2.heap.size + 1) _ _ L [118, 169, 20, 136, 172] _ (hro.below hbm) hm (by simp) (by simp)
  rw [hcod, d1] at hck
  have HK := Lib.hid hck
  have HBM := Lib.hid hbm
  have hco := fun (w9 : World) (h9 : Below w2.heap.size w2 w9) => coded_any w2.heap.size (w9.heap.size + 1) _ _ L [169, 20, 135] _ ((hro.below h9).below (byt_below w9 (.cells #[.int .u8 169, .int .u8 20, .int .u8 135] 5) h9.size)) (Byt.made w9 5 [.int .u8 169, .int .u8 20, .int .u8 135] [169, 20, 135] rfl (by unfold maxLen; simp)) (by have := h9.size; simp; omega) (by simp)
  rw [hcod, d2] at hco
  have HC := Lib.hid hco
  have hmu := fun (w9 : World) (h9 : Below w2.heap.size w2 w9) => multi_any w2.heap.size _ L w9 (hro.below h9) h9.size (by rw [hLl]; exact HPL.out)
  rw [hcod, HMB.out] at hmu
  have HMU := Lib.hid hmu
  clear hmu hck hco hcod hm hbm hro hops hL hb2 HN HP hLl d1 d2
  go_wp2_with fail
  refine HK.out.mono ?_
  rintro e w3 ⟨rfl, hb3⟩
  have HB3 := Lib.hid (HBM.out.trans (hb3.mono (by simp)))
  clear hb3
  go_wp2_with fail
  refine (HC.out w3 HB3.out).mono ?_
  rintro e w4 ⟨rfl, hb4⟩
  have HB4 := Lib.hid ((HB3.out.alloc HB3.out.size (.cells #[.int .u8 169, .int .u8 20, .int .u8 135] 5)).trans (hb4.mono (by have := HB3.out.size; simp; omega)))
  clear hb4
  go_wp2_with fail
  refine (HMU.out w4 HB4.out).mono ?_
  rintro e w5 ⟨rfl, hb5⟩
  have HB5 := Lib.hid (HB2.out.trans ((HB4.out.trans (hb5.mono HB4.out.size)).mono HB2.out.size))
  clear hb5
  have hcell : w5.cell? ⟨gb, o, none⟩ = some (.int .u8 106) := (HB5.out.cell (p := ⟨gb, o, none⟩) (by have := HGB.out; show gb < _; omega)).trans HCELL.out
  go_wp2_with fail
  refine (HPU.out w5 HB5.out).mono ?_
  rintro e w6 ⟨rfl, hb6⟩
  have HB6 := Lib.hid (HB5.out.trans (hb6.mono HB5.out.size))
  clear hb6 hcell
  go_wp2_with fail
  refine (bclone_any B _ t w6 (HTL.out.below (HB6.out.mono hB)) (by have := HTN.out; omega)).mono ?_
  intro e w7 hfr
  obtain ⟨u7, rfl, hown7, hb7⟩ := fresh_v hfr
  obtain ⟨A7, c7, rfl⟩ := own_form hown7
  have hsz : w.heap.size ≤ w7.heap.size := Nat.le_trans HB6.out.size hb7.size
  have HO7 := Lib.hid (own_later (own_base hown7 HB6.out.size) (byt_below w7 (.cells #[.slice A7 t.length c7] 22) (Nat.le_refl _)))
  have HR7 := Lib.hid (bagrow_new w7 w.heap.size [.slice A7 t.length c7] hsz (by unfold maxLen; simp))
  have HBF := Lib.hid ((HB6.out.trans (hb7.mono HB6.out.size)).alloc hsz (.cells #[.slice A7 t.length c7] 22))
  clear hfr hown7 hb7 hsz
  go_wp2_with fail
  go_ret2
  exact kindO_of (M := [(.slice A7 t.length c7, t)]) rfl ⟨HR7.out, fun q hq => by rcases List.mem_singleton.1 hq with rfl; exact HO7.out⟩ (alone_single _) HBF.out rfl

theorem kind_any (B : Nat) (x : Value) (xs : List UInt8) (w : World) (hx : Byt w B x xs) (hB : B ≤ w.heap.size) (hl : xs.length ≤ 60000000) :
    Calls Try.prog 26 #[x] w (KindO w w.heap.size (kindB xs)) := by
  cases hp : progB xs with
  | some q =>
    obtain ⟨v, p⟩ := q
    exact kindA_wit B x xs v p w hx hB hp
  | none =>
    cases hq : parseP xs with
    | none => exact kindA_bad B x xs w hx hB hl hp hq
    | some ops =>
      rw [kindB_ops hp hq]
      unfold opsB
      by_cases h1 : ops.map (·.1) = [118, 169, 20, 136, 172]
      · rw [if_pos h1]
        exact kindA_key B x xs ops w hx hB hl hp hq h1
      rw [if_neg h1]
      by_cases h2 : ops.map (·.1) = [169, 20, 135]
      · rw [if_pos h2]
        exact kindA_script B x xs ops w hx hB hl hp hq h2
      rw [if_neg h2]
      cases hm : multiB (ops.map (·.1)) with
      | true =>
        rw [if_pos rfl]
        exact kindA_multi B x xs ops w hx hB hl hp hq h1 h2 hm
      | false =>
        rw [if_neg (by decide)]
        match xs, hx, hl, hp, hq with
        | [], hx, hl, hp, hq => exact kindA_none B x [] ops w hx hB hl hp hq h1 h2 hm rfl
        | c :: t, hx, hl, hp, hq =>
          rw [dataB_cons]
          by_cases hc : c = 106
          · subst hc
            cases ht : pushesB t with
            | true => rw [if_pos ⟨rfl, rfl⟩]; exact kindA_data B x ops w t hx ht hB hl hp hq h1 h2 hm
            | false => rw [if_neg (by simp)]; exact kindA_held B x ops w t hx ht hB hl hp hq h1 h2 hm
          · rw [if_neg (by simp [hc])]
            exact kindA_else B x ops w c t hx hc hB hl hp hq h1 h2 hm
end Go.Proofs.Ytpfobbhoahnebaa

/-
  The reference's begins. Conditions: none.
-/
namespace Go.Proofs.Ytpfobbhoahnebaa
open Go.RowKit

set_option maxHeartbeats 800000 in
theorem begins_any (B B' : Nat) (x y : Value) (xs ys : List UInt8) (w : World) (hx : Byt w B x xs) (hy : Byt w B' y ys) :
    Calls Try.prog 67 #[x, y] w fun e w' => e = .returned (.bool (decide (xs.take ys.length = ys))) ∧ w = w' := by
  have hlx := hx.len
  have hly := hy.len
  unfold maxLen at hlx hly
  obtain ⟨A, c, rfl⟩ := hx.form
  obtain ⟨A2, c2, rfl⟩ := hy.form
  obtain ⟨hc1, hc2⟩ := hx.cap
  by_cases hlt : xs.length < ys.length
  · have d1 : decide (xs.length < ys.length) = true := decide_eq_true hlt
    have hr0 : ¬ ys.length ≤ xs.length := by omega
    have hr : decide (xs.take ys.length = ys) = false := decide_eq_false (fun e => by have := congrArg List.length e; rw [List.length_take] at this; omega)
    rw [hr]
    clear hx hy hr
    go_enter Try.func67, Try.ntmps67
    go_wp2_with fail
    go_ret
    exact ⟨rfl, rfl⟩
  · have d1 : decide (xs.length < ys.length) = false := decide_eq_false hlt
    have ht := byt_take hx (show ys.length ≤ xs.length by omega)
    have he := equal_any _ _ _ _ _ _ w ht hy
    rw [show (xs.take ys.length == ys) = decide (xs.take ys.length = ys) by rw [Bool.eq_iff_iff]; simp] at he
    obtain ⟨R, hR⟩ : ∃ R, R = decide (xs.take ys.length = ys) := ⟨_, rfl⟩
    rw [← hR] at he ⊢
    have HE := Lib.hid he
    have hcc : (ys.length : Int) ≤ (c : Int) := by omega
    clear hx hy ht hlt he hR
    go_enter Try.func67, Try.ntmps67
    go_wp2_with fail
    refine HE.out.mono ?_
    rintro e w1 ⟨rfl, rfl⟩
    go_wp2_with fail
    go_ret
    exact ⟨rfl, rfl⟩
end Go.Proofs.Ytpfobbhoahnebaa

/-
  The forms of a digest, read off the bytes. Conditions: none.
-/
namespace Go.Proofs.Ytpfobbhoahnebaa
open Go.RowKit

theorem two_left {xs : List UInt8} {k : Nat} (h : xs.length = k + 2) : xs.drop k = [xs.getD k 0, xs.getD (k + 1) 0] := by
  have hl : (xs.drop k).length = 2 := by rw [List.length_drop]; omega
  match hd : xs.drop k, hl with
  | [a, b], _ =>
    have e0 : xs[k]? = some a := by
      have := congrArg (fun l : List UInt8 => l[0]?) hd
      rw [List.getElem?_drop] at this
      exact this
    have e1 : xs[k + 1]? = some b := by
      have := congrArg (fun l : List UInt8 => l[1]?) hd
      rw [List.getElem?_drop] at this
      exact this
    rw [List.getD, List.getD, e0, e1]
    rfl
theorem one_left {xs : List UInt8} {k : Nat} (h : xs.length = k + 1) : xs.drop k = [xs.getD k 0] := by
  have hl : (xs.drop k).length = 1 := by rw [List.length_drop]; omega
  match hd : xs.drop k, hl with
  | [a], _ =>
    have e0 : xs[k]? = some a := by
      have := congrArg (fun l : List UInt8 => l[0]?) hd
      rw [List.getElem?_drop] at this
      exact this
    rw [List.getD, e0]
    rfl
theorem key_raw (xs : List UInt8) : (xs.length = 25 ∧ xs.take 3 = [118, 169, 20] ∧ xs.getD 23 0 = 136 ∧ xs.getD 24 0 = 172) ↔ ∃ hs, hs.length = 20 ∧ xs = keyForm hs ∧ hs = (xs.drop 3).take 20 := by
  constructor
  · rintro ⟨h1, h2, h3, h4⟩
    refine ⟨(xs.drop 3).take 20, by simp; omega, ?_, rfl⟩
    have e := two_left (k := 23) h1
    rw [h3, h4] at e
    unfold keyForm
    rw [← h2, ← e, show xs.drop 23 = (xs.drop 3).drop 20 by rw [List.drop_drop], List.append_assoc, List.take_append_drop, List.take_append_drop]
  · rintro ⟨hs, h, rfl, _⟩
    refine ⟨by unfold keyForm; simp [h], rfl, ?_, ?_⟩
    · unfold keyForm
      rw [List.getD, List.getElem?_append_right (by simp [h])]
      simp [h]
    · unfold keyForm
      rw [List.getD, List.getElem?_append_right (by simp [h])]
      simp [h]
theorem script_raw (xs : List UInt8) : (xs.length = 23 ∧ xs.take 2 = [169, 20] ∧ xs.getD 22 0 = 135) ↔ ∃ hs, hs.length = 20 ∧ xs = scriptForm hs ∧ hs = (xs.drop 2).take 20 := by
  constructor
  · rintro ⟨h1, h2, h3⟩
    refine ⟨(xs.drop 2).take 20, by simp; omega, ?_, rfl⟩
    have e := one_left (k := 22) h1
    rw [h3] at e
    unfold scriptForm
    rw [← h2, ← e, show xs.drop 22 = (xs.drop 2).drop 20 by rw [List.drop_drop], List.append_assoc, List.take_append_drop, List.take_append_drop]
  · rintro ⟨hs, h, rfl, _⟩
    refine ⟨by unfold scriptForm; simp [h], rfl, ?_⟩
    unfold scriptForm
    rw [List.getD, List.getElem?_append_right (by simp [h])]
    simp [h]
theorem prog_key (hs : List UInt8) (h : hs.length = 20) : progB (keyForm hs) = none := by
  rw [show keyForm hs = 118 :: 169 :: 20 :: (hs ++ [136, 172]) from rfl, progB_two, if_pos]
  right; right; left
  simp [h]
theorem prog_script (hs : List UInt8) (h : hs.length = 20) : progB (scriptForm hs) = none := by
  rw [show scriptForm hs = 169 :: 20 :: (hs ++ [135]) from rfl, progB_two, if_pos]
  right; right; left
  simp [h]
theorem kindB_key (hs : List UInt8) (h : hs.length = 20) : kindB (keyForm hs) = (1, [hs]) := by
  rw [kindB_ops (prog_key hs h) (parse_key h)]
  unfold opsB
  exact if_pos rfl
theorem kindB_script (hs : List UInt8) (h : hs.length = 20) : kindB (scriptForm hs) = (2, [hs]) := by
  rw [kindB_ops (prog_script hs h) (parse_script h)]
  unfold opsB
  have hne : ¬ (([(169, []), (20, hs), (135, [])] : List (UInt8 × List UInt8)).map (·.1) = [118, 169, 20, 136, 172]) := by
    show ¬ ([169, 20, 135] : List UInt8) = [118, 169, 20, 136, 172]
    decide
  exact (if_neg hne).trans (if_pos rfl)
/-- Neither of the two forms: the operations' codes are neither. -/
theorem kindB_rest {xs : List UInt8} {ops : List (UInt8 × List UInt8)} (hp : progB xs = none) (hq : parseP xs = some ops) (h1 : ¬ ∃ hs, hs.length = 20 ∧ xs = keyForm hs ∧ hs = (xs.drop 3).take 20) (h2 : ¬ ∃ hs, hs.length = 20 ∧ xs = scriptForm hs ∧ hs = (xs.drop 2).take 20) :
    kindB xs = if multiB (ops.map (·.1)) = true then (5, keysB ops) else dataB xs := by
  rw [kindB_ops hp hq]
  unfold opsB
  rw [if_neg, if_neg]
  · intro e
    obtain ⟨hs, h, rfl, _⟩ := script_back hq e
    exact h2 ⟨hs, h, rfl, by unfold scriptForm; simp [h]⟩
  · intro e
    obtain ⟨hs, h, rfl, _⟩ := key_back hq e
    exact h1 ⟨hs, h, rfl, by unfold keyForm; simp [h]⟩
end Go.Proofs.Ytpfobbhoahnebaa
