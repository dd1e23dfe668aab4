/-
  Texts joined: SnKindA, Spell, Places. Conditions: those of each.
-/
import Derived.Test.YtocblkacdoahfaaGreatDoorJ17
import Derived.Test.YtocblkacdoahfaaGreatDoorJ4
import Derived.Lib.IndexBytes
import Derived.Lib.Bytealg
/-
  script.Kind at any bytes: its parts are the call's own. Conditions: sizes within the reach.
-/
namespace Go.Proofs.YtocblkacdoahfaaGreatDoor.Sn
open Go.RowKit

theorem progB_bd {xs : List UInt8} {v : Int} {p : List UInt8} (h : progB xs = some (v, p)) : 0 ≤ v ∧ v ≤ 16 ∧ 2 ≤ p.length ∧ p.length ≤ 40 := by
  match xs, h with
  | [], h => cases h
  | [_], h => cases h
  | a :: b :: ys, h =>
    rw [progB_two] at h
    split at h
    · cases h
    · obtain ⟨rfl, rfl⟩ := Prod.mk.inj (Option.some.inj h)
      have := smallB_bd a
      exact ⟨by omega, this.2, by omega, by omega⟩
theorem parse_bad (B : Nat) (x : Value) (zs : List UInt8) (h : parseP zs = none) (w : World) (hx : Byt w B x zs) (hl : zs.length ≤ 60000000) :
    Calls Tryz.prog 35 #[x] w fun e w' => e = .returned (.tuple #[.slice none 0 0, .int .i64 4]) ∧ Below w.heap.size w w' := by
  refine (parse_any B x zs w hx hl).mono fun e w' hp => ?_
  unfold Parsed at hp
  rw [h] at hp
  exact hp
theorem kindB_wit {xs : List UInt8} {v : Int} {p : List UInt8} (h : progB xs = some (v, p)) : kindB xs = witB v p := by unfold kindB; rw [h]
theorem kindB_bad {xs : List UInt8} (h : progB xs = none) (h2 : parseP xs = none) : kindB xs = (0, []) := by unfold kindB; rw [h]; dsimp only; rw [h2]
theorem kindB_ops {xs : List UInt8} {ops : List (UInt8 × List UInt8)} (h : progB xs = none) (h2 : parseP xs = some ops) : kindB xs = opsB xs ops := by unfold kindB; rw [h]; dsimp only; rw [h2]
theorem kindO_no {w w' : World} {base : Nat} (hb : Below w.heap.size w w') : KindO w base (0, []) (.returned (.tuple #[.int .i64 0, .slice none 0 0])) w' := ⟨_, [], rfl, rfl, BagAt.nil _ _, List.Pairwise.nil, hb⟩
theorem kindO_of {w w' : World} {base : Nat} {k : Int × List (List UInt8)} {v : Value} {M : List (Value × List UInt8)} (h1 : M.map (·.2) = k.2) (h2 : BagAt w' base v M) (h3 : Alone M) (h4 : Below w.heap.size w w') {z : Int} (hz : z = k.1) : KindO w base k (.returned (.tuple #[.int .i64 z, v])) w' := ⟨v, M, by rw [hz], h1, h2, h3, h4⟩
theorem drew_below (B : Nat) (W : World) : Below B W W.drew := ⟨rfl, rfl, rfl, Nat.le_refl _, fun _ _ => rfl⟩

set_option maxRecDepth 100000 in
set_option maxHeartbeats 12800000 in
theorem kindA_wit (B : Nat) (x : Value) (xs : List UInt8) (v : Int) (p : List UInt8) (w : World) (hx : Byt w B x xs) (hB : B ≤ w.heap.size) (hp : progB xs = some (v, p)) :
    Calls Tryz.prog 11 #[x] w (KindO w w.heap.size (kindB xs)) := by
  obtain ⟨b0, b1, _, _⟩ := progB_bd hp
  have hn := prog_any B x xs w hx hB
  unfold ProgV at hn
  rw [hp] at hn
  dsimp only at hn
  rw [kindB_wit hp]
  have HN := Lib.hid hn
  obtain ⟨A, c, rfl⟩ := hx.form
  obtain ⟨k, hk⟩ : ∃ k, k = witB v p := ⟨_, rfl⟩
  have HW := Lib.hid (fun (u : Value) (W : World) (hu : OwnB W w.heap.size u p) (hb : w.heap.size ≤ W.heap.size) => wit_any w.heap.size v u p W hu hb b0 b1)
  rw [← hk] at HW ⊢
  clear hn hp hx hk
  go_enter Tryz.func11, Tryz.ntmps11
  go_wp2_with fail
  refine HN.out.mono ?_
  rintro e w1 ⟨u1, rfl, hown1, hb1⟩
  obtain ⟨A1, c1, rfl⟩ := own_form hown1
  have HO1 := Lib.hid hown1
  have HB1 := Lib.hid hb1
  clear hown1 hb1
  go_wp2_with fail
  refine (HW.out _ w1 HO1.out HB1.out.size).mono ?_
  rintro e w2 ⟨r, M, rfl, hM, hbag, hal, hb2⟩
  obtain ⟨A2, c2, rfl⟩ := hbag.form
  have HM := Lib.hid hM
  have HBAG := Lib.hid hbag
  have HAL := Lib.hid hal
  have HB2 := Lib.hid (HB1.out.trans (hb2.mono HB1.out.size))
  clear hM hbag hal hb2
  obtain ⟨n, hn⟩ : ∃ n, n = M.length := ⟨_, rfl⟩
  have HBG := Lib.hid (show ∃ v', v' = Value.slice A2 n c2 ∧ BagAt w2 w.heap.size v' M from ⟨_, rfl, by rw [hn]; exact HBAG.out⟩)
  rw [← hn]
  clear hn HBAG
  go_wp2_with fail
  go_ret2
  obtain ⟨v', hv', hbag⟩ := HBG.out
  subst hv'
  exact kindO_of HM.out hbag HAL.out HB2.out rfl

set_option maxRecDepth 100000 in
set_option maxHeartbeats 12800000 in
theorem kindA_bad (B : Nat) (x : Value) (xs : List UInt8) (w : World) (hx : Byt w B x xs) (hB : B ≤ w.heap.size) (hl : xs.length ≤ 60000000) (hp : progB xs = none) (hq : parseP xs = none) :
    Calls Tryz.prog 11 #[x] w (KindO w w.heap.size (kindB xs)) := by
  have hn := prog_any B x xs w hx hB
  unfold ProgV at hn
  rw [hp] at hn
  dsimp only at hn
  rw [kindB_bad hp hq]
  have HN := Lib.hid hn
  have HP := Lib.hid (fun W (hb : Below w.heap.size w W) => parse_bad B x xs hq W (hx.below (hb.mono hB)) hl)
  obtain ⟨A, c, rfl⟩ := hx.form
  clear hn hp hx hq
  go_enter Tryz.func11, Tryz.ntmps11
  go_wp2_with fail
  refine HN.out.mono ?_
  rintro e w1 ⟨rfl, hb1⟩
  have HB1 := Lib.hid hb1
  clear hb1
  go_wp2_with fail
  refine (HP.out w1 HB1.out).mono ?_
  rintro e w2 ⟨rfl, hb2⟩
  have HB2 := Lib.hid (HB1.out.trans (hb2.mono HB1.out.size))
  clear hb2
  go_wp2_with fail
  go_ret2
  exact kindO_no HB2.out

set_option maxRecDepth 100000 in
set_option maxHeartbeats 12800000 in
theorem kindA_key (B : Nat) (x : Value) (xs : List UInt8) (ops : List (UInt8 × List UInt8)) (w : World) (hx : Byt w B x xs) (hB : B ≤ w.heap.size) (hl : xs.length ≤ 60000000) (hp : progB xs = none) (hq : parseP xs = some ops) (hc : ops.map (·.1) = [118, 169, 20, 136, 172]) :
    Calls Tryz.prog 11 #[x] w (KindO w w.heap.size (1, [(ops.getD 2 (0, [])).2])) := by
  have d1 : decide (ops.map (·.1) = [118, 169, 20, 136, 172]) = true := by rw [hc]; decide
  have hn5 : ops.length = 5 := by have := congrArg List.length hc; simpa using this
  obtain ⟨ds, hds⟩ : ∃ ds, ds = (ops.getD 2 (0, [])).2 := ⟨_, rfl⟩
  rw [← hds]
  have HDS := Lib.hid hds
  have HN5 := Lib.hid hn5
  clear hds hn5
  have hn := prog_any B x xs w hx hB
  unfold ProgV at hn
  rw [hp] at hn
  dsimp only at hn
  have HN := Lib.hid hn
  have HP := Lib.hid (fun W (hb : Below w.heap.size w W) => parse_list B x xs ops hq W (hx.below (hb.mono hB)) hl)
  obtain ⟨A, c, rfl⟩ := hx.form
  clear hn hp hx hq
  go_enter Tryz.func11, Tryz.ntmps11
  go_wp2_with fail
  refine HN.out.mono ?_
  rintro e w1 ⟨rfl, hb1⟩
  have HB1 := Lib.hid hb1
  clear hb1
  go_wp2_with fail
  refine (HP.out w1 HB1.out).mono ?_
  rintro e w2 ⟨Av, cv, L, rfl, hL, hops, hb2⟩
  have HB2 := Lib.hid (HB1.out.trans (hb2.mono HB1.out.size))
  have hro := OpsR.of_at hops
  have hcod := codes_of hL
  have hLl : L.length = ops.length := by rw [← hL, List.length_map]
  have hm := Byt.made w2 5 [.int .u8 118, .int .u8 169, .int .u8 20, .int .u8 136, .int .u8 172] [118, 169, 20, 136, 172] rfl (by unfold maxLen; simp)
  have hbm : Below w2.heap.size w2 (w2.alloc (.cells #[.int .u8 118, .int .u8 169, .int .u8 20, .int .u8 136, .int .u8 172] 5)) := byt_below _ _ (Nat.le_refl _)
  have hck := coded_any w2.heap.size (w2.heap.size + 1) _ _ L [118, 169, 20, 136, 172] _ (hro.below hbm) hm (by simp) (by simp)
  rw [hcod, d1] at hck
  have HK := Lib.hid hck
  have HBM := Lib.hid hbm
  have hco := fun (w9 : World) (h9 : Below w2.heap.size w2 w9) => coded_any w2.heap.size (w9.heap.size + 1) _ _ L [169, 20, 135] _ ((hro.below h9).below (byt_below w9 (.cells #[.int .u8 169, .int .u8 20, .int .u8 135] 5) h9.size)) (Byt.made w9 5 [.int .u8 169, .int .u8 20, .int .u8 135] [169, 20, 135] rfl (by unfold maxLen; simp)) (by have := h9.size; simp; omega) (by simp)
  have hp2x : ∃ p, L[2]? = some p ∧ p.data = (ops.getD 2 (0, [])).2 := by
    refine piece_at hL (c := (ops.getD 2 (0, [])).1) ?_
    rw [List.getD, List.getElem?_eq_getElem (by have := HN5.out; omega)]
    rfl
  obtain ⟨p2, hp2, hd2⟩ := hp2x
  have ho2 := hops.2.1 p2 (List.mem_of_getElem? hp2)
  rw [hd2] at ho2
  obtain ⟨gb, go_, rfl, hgb, _, hcv1, hcv2, hcl⟩ := ops_cell hro (by rintro rfl; cases hp2)
  have hc2 := hcl 2 p2 hp2
  obtain ⟨pa, hpa⟩ : ∃ pa, pa = p2.at_ := ⟨_, rfl⟩
  rw [← hpa] at hc2 ho2
  rw [← HDS.out] at ho2
  obtain ⟨Ap, cp, rfl⟩ := own_form ho2
  have HO := Lib.hid ho2
  have HC2 := Lib.hid hc2
  have HGB := Lib.hid hgb
  have HCV : Hid (True) := Lib.hid trivial
  rw [HN5.out] at HK ⊢
  have hcv : 5 ≤ cv := by have := HN5.out; omega
  clear hck hco hcod hm hbm hro hops hL hb2 hp2 hd2 hpa hcl hgb hc2 hcv1 hLl hc ho2 HN HP
  go_wp2_with fail
  refine HK.out.mono ?_
  rintro e w3 ⟨rfl, hb3⟩
  have HB3 := Lib.hid (HBM.out.trans (hb3.mono (by simp)))
  clear hb3
  have hcell : w3.cell? ⟨gb, go_ + 4 + 1, none⟩ = some (.slice Ap ds.length cp) := (HB3.out.cell (p := ⟨gb, _, none⟩) HGB.out).trans HC2.out
  have hcell5 : w3.cell? ⟨gb, go_ + 5, none⟩ = some (.slice Ap ds.length cp) := hcell
  have hsz : w.heap.size ≤ w3.heap.size := Nat.le_trans HB2.out.size HB3.out.size
  have HO2 := Lib.hid (own_later (own_later (own_base HO.out HB1.out.size) HB3.out) (byt_below w3 (.cells #[.slice Ap ds.length cp] 23) (Nat.le_refl _)))
  have HR2 := Lib.hid (bagrow_new w3 w.heap.size [.slice Ap ds.length cp] hsz (by unfold maxLen; simp))
  have HBF := Lib.hid ((HB2.out.trans (HB3.out.mono HB2.out.size)).alloc hsz (.cells #[.slice Ap ds.length cp] 23))
  clear hsz
  go_wp2_with fail
  go_region
  go_wp2_with fail
  go_ret2
  exact kindO_of (M := [(.slice Ap ds.length cp, ds)]) rfl (BagAt.below ⟨HR2.out, fun q hq => by rcases List.mem_singleton.1 hq with rfl; exact HO2.out⟩ (drew_below _ _)) (alone_single _) (HBF.out.trans (drew_below _ _)) rfl

set_option maxRecDepth 100000 in
set_option maxHeartbeats 12800000 in
theorem kindA_script (B : Nat) (x : Value) (xs : List UInt8) (ops : List (UInt8 × List UInt8)) (w : World) (hx : Byt w B x xs) (hB : B ≤ w.heap.size) (hl : xs.length ≤ 60000000) (hp : progB xs = none) (hq : parseP xs = some ops) (hc : ops.map (·.1) = [169, 20, 135]) :
    Calls Tryz.prog 11 #[x] w (KindO w w.heap.size (2, [(ops.getD 1 (0, [])).2])) := by
  have d1 : decide (ops.map (·.1) = [118, 169, 20, 136, 172]) = false := by rw [hc]; decide
  have d2 : decide (ops.map (·.1) = [169, 20, 135]) = true := by rw [hc]; decide
  have hn5 : ops.length = 3 := by have := congrArg List.length hc; simpa using this
  obtain ⟨ds, hds⟩ : ∃ ds, ds = (ops.getD 1 (0, [])).2 := ⟨_, rfl⟩
  rw [← hds]
  have HDS := Lib.hid hds
  have HN5 := Lib.hid hn5
  clear hds hn5
  have hn := prog_any B x xs w hx hB
  unfold ProgV at hn
  rw [hp] at hn
  dsimp only at hn
  have HN := Lib.hid hn
  have HP := Lib.hid (fun W (hb : Below w.heap.size w W) => parse_list B x xs ops hq W (hx.below (hb.mono hB)) hl)
  obtain ⟨A, c, rfl⟩ := hx.form
  clear hn hp hx hq
  go_enter Tryz.func11, Tryz.ntmps11
  go_wp2_with fail
  refine HN.out.mono ?_
  rintro e w1 ⟨rfl, hb1⟩
  have HB1 := Lib.hid hb1
  clear hb1
  go_wp2_with fail
  refine (HP.out w1 HB1.out).mono ?_
  rintro e w2 ⟨Av, cv, L, rfl, hL, hops, hb2⟩
  have HB2 := Lib.hid (HB1.out.trans (hb2.mono HB1.out.size))
  have hro := OpsR.of_at hops
  have hcod := codes_of hL
  have hLl : L.length = ops.length := by rw [← hL, List.length_map]
  have hm := Byt.made w2 5 [.int .u8 118, .int .u8 169, .int .u8 20, .int .u8 136, .int .u8 172] [118, 169, 20, 136, 172] rfl (by unfold maxLen; simp)
  have hbm : Below w2.heap.size w2 (w2.alloc (.cells #[.int .u8 118, .int .u8 169, .int .u8 20, .int .u8 136, .int .u8 172] 5)) := byt_below _ _ (Nat.le_refl _)
  have hck := coded_any w2.heap.size (w2.heap.size + 1) _ _ L [118, 169, 20, 136, 172] _ (hro.below hbm) hm (by simp) (by simp)
  rw [hcod, d1] at hck
  have HK := Lib.hid hck
  have HBM := Lib.hid hbm
  have hco := fun (w9 : World) (h9 : Below w2.heap.size w2 w9) => coded_any w2.heap.size (w9.heap.size + 1) _ _ L [169, 20, 135] _ ((hro.below h9).below (byt_below w9 (.cells #[.int .u8 169, .int .u8 20, .int .u8 135] 5) h9.size)) (Byt.made w9 5 [.int .u8 169, .int .u8 20, .int .u8 135] [169, 20, 135] rfl (by unfold maxLen; simp)) (by have := h9.size; simp; omega) (by simp)
  rw [hcod, d2] at hco
  have HC := Lib.hid hco
  have hp2x : ∃ p, L[1]? = some p ∧ p.data = (ops.getD 1 (0, [])).2 := by
    refine piece_at hL (c := (ops.getD 1 (0, [])).1) ?_
    rw [List.getD, List.getElem?_eq_getElem (by have := HN5.out; omega)]
    rfl
  obtain ⟨p2, hp2, hd2⟩ := hp2x
  have ho2 := hops.2.1 p2 (List.mem_of_getElem? hp2)
  rw [hd2] at ho2
  obtain ⟨gb, go_, rfl, hgb, _, hcv1, hcv2, hcl⟩ := ops_cell hro (by rintro rfl; cases hp2)
  have hc2 := hcl 1 p2 hp2
  obtain ⟨pa, hpa⟩ : ∃ pa, pa = p2.at_ := ⟨_, rfl⟩
  rw [← hpa] at hc2 ho2
  rw [← HDS.out] at ho2
  obtain ⟨Ap, cp, rfl⟩ := own_form ho2
  have HO := Lib.hid ho2
  have HC2 := Lib.hid hc2
  have HGB := Lib.hid hgb
  have HCV : Hid (True) := Lib.hid trivial
  rw [HN5.out] at HC HK ⊢
  have hcv : 3 ≤ cv := by have := HN5.out; omega
  clear hck hco hcod hm hbm hro hops hL hb2 hp2 hd2 hpa hcl hgb hc2 hcv1 hLl hc ho2 HN HP
  go_wp2_with fail
  refine HK.out.mono ?_
  rintro e w3 ⟨rfl, hb3⟩
  have HB3 := Lib.hid (HBM.out.trans (hb3.mono (by simp)))
  clear hb3
  go_wp2_with fail
  refine (HC.out w3 HB3.out).mono ?_
  rintro e w4 ⟨rfl, hb4⟩
  have HB4 := Lib.hid ((HB3.out.alloc HB3.out.size (.cells #[.int .u8 169, .int .u8 20, .int .u8 135] 5)).trans (hb4.mono (by have := HB3.out.size; simp; omega)))
  clear hb4
  have hcell : w4.cell? ⟨gb, go_ + 2 + 1, none⟩ = some (.slice Ap ds.length cp) := (HB4.out.cell (p := ⟨gb, _, none⟩) HGB.out).trans HC2.out
  have hcell5 : w4.cell? ⟨gb, go_ + 3, none⟩ = some (.slice Ap ds.length cp) := hcell
  have hsz : w.heap.size ≤ w4.heap.size := Nat.le_trans HB2.out.size HB4.out.size
  have HO2 := Lib.hid (own_later (own_later (own_base HO.out HB1.out.size) HB4.out) (byt_below w4 (.cells #[.slice Ap ds.length cp] 23) (Nat.le_refl _)))
  have HR2 := Lib.hid (bagrow_new w4 w.heap.size [.slice Ap ds.length cp] hsz (by unfold maxLen; simp))
  have HBF := Lib.hid ((HB2.out.trans (HB4.out.mono HB2.out.size)).alloc hsz (.cells #[.slice Ap ds.length cp] 23))
  clear hsz
  go_wp2_with fail
  go_region
  go_wp2_with fail
  go_ret2
  exact kindO_of (M := [(.slice Ap ds.length cp, ds)]) rfl (BagAt.below ⟨HR2.out, fun q hq => by rcases List.mem_singleton.1 hq with rfl; exact HO2.out⟩ (drew_below _ _)) (alone_single _) (HBF.out.trans (drew_below _ _)) rfl

end Go.Proofs.YtocblkacdoahfaaGreatDoor.Sn

/-
  text.spell: the letters of an alphabet at these places. Conditions: each place is in the alphabet; sizes within the reach.
-/
namespace Go.Proofs.YtocblkacdoahfaaGreatDoor
open Go.RowKit

def letters (s : ByteArray) (ps : List UInt8) : List UInt8 := ps.map fun p => s.data.toList.getD p.toNat 0
theorem letters_length (s : ByteArray) (ps : List UInt8) : (letters s ps).length = ps.length := by simp [letters]
theorem letters_at {s : ByteArray} {ps : List UInt8} {i : Nat} {p : UInt8} (hp : ps[i]? = some p) (h : p.toNat < s.size) : (letters s ps)[i]? = some (s[p.toNat]'h) := by
  unfold letters
  rw [List.getElem?_map, hp]
  simp only [Option.map_some]
  rw [List.getD_eq_getElem?_getD, Lib.data_getElem? s _ h]
  rfl

theorem go_bv (u : UInt8) : bv u = .int .u8 (u.toNat : Int) := rfl

set_option maxRecDepth 100000 in
set_option maxHeartbeats 1600000 in
theorem spell_any (B : Nat) (x : Value) (ps : List UInt8) (s : ByteArray) (w : World) (hx : Byt w B x ps) (hB : B ≤ w.heap.size) (hl : ps.length ≤ 60000) (hin : ∀ p ∈ ps, p.toNat < s.size) :
    Calls Tryz.prog 59 #[x, .string s] w fun e w' => e = .returned (.string ⟨(letters s ps).toArray⟩) ∧ Below w.heap.size w w' := by
  obtain ⟨A, c, hxf⟩ := hx.form
  subst hxf
  have hmk := fun W => make_bytes W ps.length (ps.length : Int) rfl (by omega)
  have hX := Lib.hid hx
  have HIN := Lib.hid hin
  clear hx hin
  obtain ⟨ls, hls⟩ : ∃ ls, ls = letters s ps := ⟨_, rfl⟩
  have hll : ls.length = ps.length := by rw [hls, letters_length]
  rw [← hls]
  have HLS := Lib.hid hls
  have HLL := Lib.hid hll
  clear hls hll
  go_enter Tryz.func59, Tryz.ntmps59
  go_wp2_with fail
  clear hmk
  go_loopw [13] (fun j wr => ∃ i : Nat, i ≤ ps.length ∧ j = .int .i64 i ∧ FillB w w.heap.size i ls wr) (fun j _ => ps.length - (intOf j).toNat)
  case atStart => exact ⟨0, Nat.zero_le _, rfl, _, rfl, by simpa [HLL.out] using row_new w ps.length, (Below.refl _ _).alloc (Nat.le_refl _) _⟩
  case round =>
    obtain ⟨i, hi, rfl, hfill⟩ := hrel
    by_cases hlt : i < ps.length
    · obtain ⟨zs, hz, hrow, hbel⟩ := hfill
      have hcell : wr.cell? ⟨w.heap.size, i, none⟩ = some (.int .u8 0) := hrow.cell (fillB_zero (by rw [HLL.out]; exact hlt) hz)
      have hfree := hrow.free i
      obtain ⟨A', c', e0, _, _, _, h4⟩ := hX.out
      injection e0 with e1 e2 e3
      subst e1 e3
      obtain ⟨b, o, rfl, hb, hbc⟩ := h4 (by rintro rfl; simp at hlt)
      have hci := hbc i _ (List.getElem?_eq_getElem hlt)
      obtain ⟨q, hq⟩ : ∃ q, q = ps[i] := ⟨_, rfl⟩
      rw [← hq] at hci
      have hqs : q.toNat < s.size := HIN.out q (by rw [hq]; exact List.getElem_mem hlt)
      have hbi : wr.cell? ⟨b, o + i, none⟩ = some (.int .u8 (q.toNat : Int)) := (hbel.cell (p := ⟨b, _, none⟩) (by show b < _; omega)).trans hci
      have hat : ls[i]? = some (s[q.toNat]'hqs) := by rw [HLS.out]; exact letters_at (by rw [hq]; exact List.getElem?_eq_getElem hlt) hqs
      have HQ := Lib.hid hq
      have HZ := Lib.hid hz
      have HR := Lib.hid hrow
      have HA := Lib.hid hat
      clear hq hz hrow hci hbc h4 hat
      go_wp2
      refine ⟨⟨i + 1, by omega, by go_num, ?_⟩, ?_⟩
      · exact fillB_next (by rw [HLL.out]; exact hlt) HA.out HZ.out (HR.out.set _) (hbel.setCell (Nat.le_refl _) _)
      · simp [intOf]; omega
    · have hie : i = ls.length := by rw [HLL.out]; omega
      rw [hie] at hfill
      obtain ⟨hrow, hbel⟩ := fillB_end hfill
      have hby := hrow.byt (n := ls.length) (c := ls.length) (Nat.le_refl _) (Nat.le_refl _) (by have := HLL.out; unfold maxLen; omega)
      rw [List.take_length, HLL.out] at hby
      have hrs := run_string_of (P := Tryz.prog) wr 23 9 5 slice_u8 Tryz.underlying5 Tryz.underlying9 _ _ ls hby
      clear hby hrow hie hfill
      go_wp2
      go_ret
      exact ⟨rfl, hbel⟩

end Go.Proofs.YtocblkacdoahfaaGreatDoor

/-
  text.places: where each byte of a text stands in an alphabet. Conditions: sizes within the reach.
-/
namespace Go.Proofs.YtocblkacdoahfaaGreatDoor
open Go.RowKit

set_option maxRecDepth 100000 in
set_option maxHeartbeats 800000 in
theorem slite_any (s : ByteArray) (c : Int) (w : World) :
    Calls Tryz.prog 126 #[.string s, .int .u8 c] w fun e w' => e = .returned (.int .i64 (Lib.indexByte s.data.toList c.toNat.toUInt8)) ∧ w = w' := by
  go_enter Tryz.func126, Tryz.ntmps126
  go_wp2
  rw [run_callFunc_extern Tryz.func136 (by kernel_rfl) (by kernel_rfl) (by kernel_rfl) (e := Extern.BytealgIndexByte.indexByte) (by kernel_rfl), Lib.run_indexByteString]
  simp only [Result.andThen]
  rw [Oper.upon_value]
  go_wp2
  go_ret
  exact ⟨rfl, rfl⟩

set_option maxRecDepth 100000 in
set_option maxHeartbeats 800000 in
theorem sbyte_any (s : ByteArray) (c : Int) (w : World) :
    Calls Tryz.prog 105 #[.string s, .int .u8 c] w fun e w' => e = .returned (.int .i64 (Lib.indexByte s.data.toList c.toNat.toUInt8)) ∧ w = w' := by
  have C := Lib.hid (slite_any s c)
  go_enter Tryz.func105, Tryz.ntmps105
  go_wp2_with fail
  refine (C.out _).mono ?_
  rintro e w' ⟨rfl, rfl⟩
  go_wp2
  go_ret
  exact ⟨rfl, rfl⟩

/-- Where a byte stands. -/
def posB (al : ByteArray) (c : UInt8) : Int := Lib.indexByte al.data.toList c
def placesB (al : ByteArray) (cs : List UInt8) : List UInt8 := cs.map fun c => b8 (posB al c)
theorem placesB_length (al : ByteArray) (cs : List UInt8) : (placesB al cs).length = cs.length := by simp [placesB]

/-- What places answers. -/
def PlacesPost (w : World) (al : ByteArray) (cs : List UInt8) (e : Ending) (w' : World) : Prop :=
  Below w.heap.size w w' ∧ ((∀ c ∈ cs, 0 ≤ posB al c) ∧ e = .returned (.tuple #[.slice (some ⟨w.heap.size, 0, none⟩) cs.length cs.length, .bool true]) ∧ Row w' w.heap.size (placesB al cs) ∨
    (∃ c ∈ cs, posB al c < 0) ∧ e = .returned (.tuple #[.slice none 0 0, .bool false]))

theorem u8_back (c : UInt8) : ((c.toNat : Int)).toNat.toUInt8 = c := by simp

set_option maxRecDepth 100000 in
set_option maxHeartbeats 1600000 in
theorem places_any (s al : ByteArray) (w : World) (hl : s.size ≤ 60000) (hal : al.size ≤ 255) :
    Calls Tryz.prog 80 #[.string s, .string al] w (PlacesPost w al s.data.toList) := by
  have hmk := fun W => make_bytes W s.size (s.size : Int) rfl (by omega)
  obtain ⟨ls, hls⟩ : ∃ ls, ls = placesB al s.data.toList := ⟨_, rfl⟩
  have hll : ls.length = s.size := by rw [hls, placesB_length]; rfl
  have HLS := Lib.hid hls
  have HLL := Lib.hid hll
  clear hls hll
  go_enter Tryz.func80, Tryz.ntmps80
  go_wp2_with fail
  clear hmk
  go_loopw [14] (fun j wr => ∃ i : Nat, i ≤ s.size ∧ j = .int .i64 i ∧ FillB w w.heap.size i ls wr ∧ ∀ c ∈ s.data.toList.take i, 0 ≤ posB al c) (fun j _ => s.size - (intOf j).toNat)
  case atStart => exact ⟨0, Nat.zero_le _, rfl, ⟨_, rfl, by simpa [HLL.out] using row_new w s.size, (Below.refl _ _).alloc (Nat.le_refl _) _⟩, by simp⟩
  case round =>
    obtain ⟨i, hi, rfl, hfill, hall⟩ := hrel
    by_cases hlt : i < s.size
    · obtain ⟨zs, hz, hrow, hbel⟩ := hfill
      have hcell : wr.cell? ⟨w.heap.size, i, none⟩ = some (.int .u8 0) := hrow.cell (fillB_zero (by rw [HLL.out]; exact hlt) hz)
      have hfree := hrow.free i
      have hsi : s.data.toList[i]? = some (s[i]'hlt) := Lib.data_getElem? s i hlt
      have hC := sbyte_any al ((s[i]'hlt).toNat : Int)
      rw [u8_back] at hC
      have hp : Lib.indexByte al.data.toList (s[i]'hlt) = posB al (s[i]'hlt) := rfl
      rw [hp] at hC
      have hge := Lib.indexByte_ge al.data.toList (s[i]'hlt)
      rw [hp] at hge
      have hle : posB al (s[i]'hlt) < al.size ∨ posB al (s[i]'hlt) = -1 := by
        by_cases h : posB al (s[i]'hlt) = -1
        · exact .inr h
        · obtain ⟨o, ho⟩ : ∃ o : Nat, posB al (s[i]'hlt) = o := ⟨(posB al (s[i]'hlt)).toNat, by omega⟩
          have := (List.getElem?_eq_some_iff.1 (Lib.indexByte_some (by rw [hp]; exact ho)).1).1
          exact .inl (by rw [ho]; have h2 : al.data.toList.length = al.size := rfl; omega)
      have hat : ls[i]? = some (b8 (posB al (s[i]'hlt))) := by
        rw [HLS.out]; unfold placesB; rw [List.getElem?_map, hsi]; rfl
      obtain ⟨q, hq⟩ : ∃ q, q = posB al (s[i]'hlt) := ⟨_, rfl⟩
      rw [← hq] at hC hge hle hat
      have htk : s.data.toList.take (i + 1) = s.data.toList.take i ++ [s[i]'hlt] := by
        rw [List.take_add_one, hsi]; rfl
      have HC := Lib.hid hC
      have HQ := Lib.hid hq
      have HZ := Lib.hid hz
      have HR := Lib.hid hrow
      have HA := Lib.hid hat
      have HT := Lib.hid htk
      have HS := Lib.hid hsi
      clear hC hq hz hrow hat hp htk hsi
      by_cases hneg : q < 0
      · have hd : decide (q < 0) = true := decide_eq_true hneg
        go_wp2_with fail
        refine (HC.out _).mono ?_
        rintro e w' ⟨rfl, rfl⟩
        go_wp2
        go_ret2
        exact ⟨hbel, .inr ⟨⟨s[i]'hlt, List.mem_of_getElem? HS.out, by rw [← HQ.out]; exact hneg⟩, rfl⟩⟩
      · have hd : decide (q < 0) = false := decide_eq_false hneg
        have hw : IntKind.u8.wrap q = q := by rw [IntKind.wrap_u8]; omega
        go_wp2_with fail
        refine (HC.out _).mono ?_
        rintro e w' ⟨rfl, rfl⟩
        go_wp2
        refine ⟨⟨i + 1, by omega, by go_num, fillB_next (by rw [HLL.out]; exact hlt) HA.out HZ.out ?_ (hbel.setCell (Nat.le_refl _) _), ?_⟩, by simp [intOf]; omega⟩
        · have h1 := HR.out.set (i := i) (b8 q)
          rw [bv_b8_of (by omega) (by omega)] at h1
          exact h1
        · intro c hc
          rw [HT.out] at hc
          rcases List.mem_append.1 hc with h | h
          · exact hall c h
          · rw [List.mem_singleton.1 h, ← HQ.out]; omega
    · have hie : i = ls.length := by rw [HLL.out]; omega
      have hall2 : ∀ c ∈ s.data.toList, 0 ≤ posB al c := fun c hc => hall c (by rwa [List.take_of_length_le (by have h2 : s.data.toList.length = s.size := rfl; omega)])
      rw [hie] at hfill
      have HF := Lib.hid (fillB_end hfill)
      have HA := Lib.hid hall2
      clear hie hfill hall hall2
      go_wp2
      go_ret2
      exact ⟨HF.out.2, .inl ⟨HA.out, rfl, by rw [← HLS.out]; exact HF.out.1⟩⟩

end Go.Proofs.YtocblkacdoahfaaGreatDoor
