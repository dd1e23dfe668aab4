/-
  Texts joined: GrpRef2, TSpare, TKept. Conditions: those of each.
-/
import Derived.Test.YtgiljhdjknglpaaDoorJ11
import Derived.Test.YtgiljhdjknglpaaDoorJ5
import Derived.BigQuiet
import Derived.Deep.QuietTactic
import Derived.IntWalk
import Derived.Deep.RegionHeld
import Derived.OrdersHeld
/-
  The reference's Regroup. Conditions: sizes within the reach.
-/
namespace Go.Proofs.YtgiljhdjknglpaaDoor
open Go.RowKit

theorem OwnB.weaken {w : World} {base b' : Nat} {v : Value} {ys : List UInt8} (h : OwnB w base v ys) (hb : b' ≤ base) : OwnB w b' v ys := by
  refine ⟨h.1, ?_⟩
  rcases h.2 with hn | ⟨g, cap, cur, rfl, hbb, rest⟩
  · exact .inl hn
  · exact .inr ⟨g, cap, cur, rfl, Nat.le_trans hb hbb, rest⟩
theorem valN_take {l : List Nat} {k y : Nat} (h : l[k]? = some y) : valN (l.take (k + 1)) = 2 * valN (l.take k) + y := by
  rw [List.take_add_one, h]
  exact valN_snoc _ _
theorem valN_take_lt {l : List Nat} (hb : Bin l) (k : Nat) : valN (l.take k) < 2 ^ k := by
  have h := valN_lt (l := l.take k) (fun x hx => hb x (List.mem_of_mem_take hx))
  exact Nat.lt_of_lt_of_le h (Nat.pow_le_pow_right (by omega) (List.length_take_le _ _))
theorem bytesB_at {l : List Nat} {k y : Nat} (h : l[k]? = some y) : (bytesB l)[k]? = some (b8 ((y : Nat) : Int)) := by
  unfold bytesB
  rw [List.getElem?_map, h]
  rfl

set_option maxRecDepth 100000 in
set_option maxHeartbeats 6400000 in
theorem refReg_good (B : Nat) (x : Value) (ds : List UInt8) (a b : Nat) (pad : Bool) (w : World) (hx : Byt w B x ds) (hB : B ≤ w.heap.size) (hl : ds.length ≤ 20000) (ha0 : 1 ≤ a) (ha1 : a ≤ 8) (hb0 : 1 ≤ b) (hb1 : b ≤ 8) :
    Calls Tryd.prog 28 #[x, .int .i64 a, .int .i64 b, .bool pad] w (RegPost w (regS a b pad ds)) := by
  obtain ⟨i0, hi, hz0, hz1, hz2⟩ := info_parts info_u8
  obtain ⟨A, c, hxf⟩ := hx.form
  subst hxf
  have hX := Lib.hid hx
  have BC := Lib.hid (fun W (hw : Below w.heap.size w W) => bits_any B _ ds a W (hx.below (hw.mono hB)) (Nat.le_trans hB hw.size) hl ha0 ha1)
  have HR := Lib.hid (fun q hv rr hd h hlt => regS_eval (a := a) (b := b) (q := q) (hv := hv) (rr := rr) (ds := ds) ha0 ha1 hb0 hb1 hd h hlt pad)
  have HRB := Lib.hid (fun hd => regS_bad (a := a) (b := b) (ds := ds) ha0 ha1 hb0 hb1 hd pad)
  have hpa := pow_8 ha1
  have hpb2 := pow_8 hb1
  have hpa0 : 1 ≤ 2 ^ a := Nat.one_le_two_pow
  obtain ⟨pa, hpae⟩ : ∃ pa, pa = 2 ^ a := ⟨_, rfl⟩
  rw [← hpae] at hpa hpa0
  have hpaI : (2 : Int) ^ a = (pa : Int) := by rw [hpae]; simp
  have HPA := Lib.hid hpae
  have HPAI := Lib.hid hpaI
  have c1 : decide ((a : Int) < 1) = false := decide_eq_false (by omega)
  have c2 : decide ((8 : Int) < (a : Int)) = false := decide_eq_false (by omega)
  have c3 : decide ((b : Int) < 1) = false := decide_eq_false (by omega)
  have c4 : decide ((8 : Int) < (b : Int)) = false := decide_eq_false (by omega)
  have c5 : ¬ (a = 0) := by omega
  have c6 : ¬ (b = 0) := by omega
  clear hx hpae hpaI
  go_enter Tryd.func28, Tryd.ntmps28
  go_wp2_with fail
  go_loopw [10] (fun j wr => ∃ i : Nat, i ≤ ds.length ∧ j = .int .i64 i ∧ Hid (∀ d ∈ ds.take i, d.toNat < 2 ^ a) ∧ Below w.heap.size w wr) (fun j _ => ds.length - (intOf j).toNat)
  case atStart => exact ⟨0, Nat.zero_le _, rfl, Lib.hid (by simp), Below.refl _ _⟩
  case round =>
    obtain ⟨i, hi2, rfl, hall, hbel⟩ := hrel
    by_cases hlt : i < ds.length
    · obtain ⟨A', c', e0, _, _, _, h4⟩ := hX.out
      injection e0 with e1 e2 e4
      subst e1 e4
      clear e2
      obtain ⟨bb, o, rfl, hbb, hbc⟩ := h4 (by rintro rfl; simp at hlt)
      have hci := hbc i _ (List.getElem?_eq_getElem hlt)
      obtain ⟨d, hd⟩ : ∃ d, d = ds[i] := ⟨_, rfl⟩
      rw [← hd] at hci
      have hbi : wr.cell? ⟨bb, o + i, none⟩ = some (.int .u8 (d.toNat : Int)) := (hbel.cell (p := ⟨bb, _, none⟩) (by show bb < _; omega)).trans hci
      have hqi : ds[i]? = some d := by rw [hd]; exact List.getElem?_eq_getElem hlt
      have hd256 := d.toNat_lt
      have HQI := Lib.hid hqi
      have hpaI2 := HPAI.out
      clear hbc h4 hci hd hqi
      by_cases hbig : pa ≤ d.toNat
      · have ha8 : a < 8 := by
          rcases Nat.lt_or_ge a 8 with h | h
          · exact h
          · have : a = 8 := by omega
            have h2 := HPA.out
            rw [this] at h2
            omega
        have hc8 : decide ((a : Int) < 8) = true := decide_eq_true (by omega)
        have hd1 : ((d.toNat : Int) / (pa : Int) != 0) = true := by
          have h1 : 0 < d.toNat / pa := Nat.div_pos hbig (by omega)
          have h2 : ((d.toNat : Int) / (pa : Int)) = ((d.toNat / pa : Nat) : Int) := by simp
          rw [h2]; simp; omega
        have HBAD : Hid (regS a b pad ds = (3, [])) := Lib.hid (HRB.out ⟨d, List.mem_of_getElem? HQI.out, by rw [← HPA.out]; exact hbig⟩)
        go_wp2
        go_ret2
        exact ⟨_, by rw [HBAD.out]; rfl, by rw [HBAD.out]; exact OwnB.nil _ _, hbel⟩
      · have hd1 : ((d.toNat : Int) / (pa : Int) != 0) = false := by
          have h1 : d.toNat / pa = 0 := Nat.div_eq_of_lt (by omega)
          have h2 : ((d.toNat : Int) / (pa : Int)) = ((d.toNat / pa : Nat) : Int) := by simp
          rw [h2, h1]; rfl
        have HA1 : Hid (∀ e ∈ ds.take (i + 1), e.toNat < 2 ^ a) := Lib.hid (fun e he => by
          rw [List.take_add_one, HQI.out] at he
          rcases List.mem_append.1 he with h | h
          · exact hall.out e h
          · have : e = d := by simpa using h
            rw [this, ← HPA.out]; omega)
        by_cases ha8 : a < 8
        · have hc8 : decide ((a : Int) < 8) = true := decide_eq_true (by omega)
          go_wp2
          exact ⟨⟨i + 1, by omega, by go_num, HA1, hbel⟩, by simp [intOf]; omega⟩
        · have hc8 : decide ((a : Int) < 8) = false := decide_eq_false (by omega)
          go_wp2
          exact ⟨⟨i + 1, by omega, by go_num, HA1, hbel⟩, by simp [intOf]; omega⟩
    · have hie : ds.take i = ds := List.take_of_length_le (by omega)
      rw [hie] at hall
      have BC2 := Lib.hid (BC.out wr hbel)
      clear hie
      go_wp2_with fail
      refine BC2.out.mono ?_
      rintro e w2 ⟨vA, rfl, hownA, hb2⟩
      obtain ⟨L, hL⟩ : ∃ L, L = bitsAll a ds := ⟨_, rfl⟩
      rw [← hL] at hownA
      have hLb : Bin L := by rw [hL]; exact bitsAll_bin _ _
      obtain ⟨nL, hnL⟩ : ∃ nL, nL = L.length := ⟨_, rfl⟩
      have hnL2 : nL ≤ 160000 := by rw [hnL, hL, bitsAll_length]; exact Nat.mul_le_mul hl ha1
      have hbyA := hownA.byt
      obtain ⟨AA, cA, rfl⟩ := hownA.form
      rw [bytesB_length, ← hnL] at hbyA ⊢
      have hcellA : ∀ (k y : Nat), L[k]? = some y → ∃ gA oA, AA = some ⟨gA, oA, none⟩ ∧ gA < w2.heap.size ∧ w2.cell? ⟨gA, oA + k, none⟩ = some (.int .u8 (y : Int)) := by
        intro k y hk
        obtain ⟨A', c', e0, _, _, _, h4⟩ := hbyA
        injection e0 with e1 e2 e4
        subst e1
        have hne : bytesB L ≠ [] := by
          intro h
          have h1 : (bytesB L).length = 0 := by rw [h]; rfl
          rw [bytesB_length] at h1
          have h2 := (List.getElem?_eq_some_iff.1 hk).1
          omega
        obtain ⟨g, o, rfl, hg, hcc⟩ := h4 hne
        have h5 := hcc k _ (bytesB_at hk)
        have hy := hLb y (List.mem_of_getElem? hk)
        rw [bv_b8_of (by omega) (by omega)] at h5
        exact ⟨g, o, rfl, hg, h5⟩
      have hB2 : Below w.heap.size w w2 := hbel.trans (hb2.mono hbel.size)
      have HCA := Lib.hid hcellA
      have HLB := Lib.hid hLb
      have HL := Lib.hid hL
      have HNL := Lib.hid hnL
      have HB2 := Lib.hid hB2
      clear hcellA hLb hL hnL hB2 hbyA hownA hb2 BC BC2 hbel
      go_wp2_with fail
      go_loopw [13, 12] (fun j v wx => ∃ q at_ : Nat, Hid (at_ = b * q) ∧ at_ ≤ nL ∧ j = .int .i64 at_ ∧ OwnB wx w2.heap.size v (outsN b L q) ∧ Below w2.heap.size w2 wx) (fun j _ _ => nL - (intOf j).toNat)
      case atStart => exact ⟨0, 0, Lib.hid rfl, Nat.zero_le _, rfl, OwnB.nil _ _, Below.refl _ _⟩
      case round =>
        obtain ⟨q, at_, hat, hatl, rfl, hown, hbel⟩ := hrel
        obtain ⟨wO, rfl⟩ : ∃ wO, wO = wr := ⟨_, rfl⟩
        by_cases hfit : at_ + b ≤ nL
        · have hcd : decide ((at_ : Int) + (b : Int) ≤ (nL : Int)) = true := decide_eq_true (by omega)
          obtain ⟨D, hD⟩ : ∃ D, D = (L.drop (b * q)).take b := ⟨_, rfl⟩
          have hDl : D.length = b := by rw [hD, List.length_take, List.length_drop, ← hat.out, ← HNL.out]; omega
          have hDb : Bin D := by rw [hD]; exact fun x hx => HLB.out x (List.mem_of_mem_drop (List.mem_of_mem_take hx))
          have hDk : ∀ k, k < b → ∃ y : Nat, D[k]? = some y ∧ L[at_ + k]? = some y ∧ y < 2 := by
            intro k hk
            have h1 : D[k]? = L[at_ + k]? := by
              rw [hD, List.getElem?_take, if_pos hk, List.getElem?_drop, ← hat.out]
            refine ⟨D[k]'(by omega), List.getElem?_eq_getElem (by omega), by rw [← h1]; exact List.getElem?_eq_getElem (by omega), hDb _ (List.getElem_mem _)⟩
          have hsn := outsN_succ b L q
          rw [← hD] at hsn
          have HD := Lib.hid hDk
          have HDB := Lib.hid hDb
          have HSN := Lib.hid hsn
          have HDL := Lib.hid hDl
          clear hD hDl hDb hDk hsn
          go_wp2_with fail
          obtain ⟨Av3, cv3, hv3⟩ := hown.form
          subst hv3
          go_loopw [15, 14] (fun j v wx => ∃ k z : Nat, k ≤ b ∧ j = .int .i64 k ∧ v = .int .u8 z ∧ Hid (z = valN (D.take k)) ∧ wO = wx) (fun j _ _ => b - (intOf j).toNat)
          case atStart => exact ⟨0, 0, Nat.zero_le _, rfl, rfl, Lib.hid (by simp [valN]), rfl⟩
          case round =>
            obtain ⟨k, z, hk, rfl, rfl, hz, rfl⟩ := hrel
            by_cases hkb : k < b
            · obtain ⟨y, hy1, hy2, hy3⟩ := HD.out k hkb
              obtain ⟨gA, oA, rfl, hgA, hcA⟩ := HCA.out _ _ hy2
              have hcA2 : wO.cell? ⟨gA, oA + (at_ + k), none⟩ = some (.int .u8 (y : Int)) := (hbel.cell (p := ⟨gA, _, none⟩) hgA).trans hcA
              have hnx := valN_take hy1
              rw [← hz.out] at hnx
              have hzl := valN_take_lt HDB.out k
              rw [← hz.out] at hzl
              have hz128 : z < 128 := Nat.lt_of_lt_of_le hzl (show 2 ^ k ≤ 2 ^ 7 from Nat.pow_le_pow_right (by omega) (by omega))
              have e1 : (at_ : Int) + (k : Int) = ((at_ + k : Nat) : Int) := by omega
              have hatk : at_ + k < nL := by omega
              obtain ⟨j, hj⟩ : ∃ j, j = at_ + k := ⟨_, rfl⟩
              rw [← hj] at e1 hcA2 hatk
              have HNX := Lib.hid hnx
              clear hnx hzl hz hcA hj hy1 hy2
              go_wp2
              exact ⟨⟨k + 1, 2 * z + y, by omega, by go_num, by first | go_num | (congr 1; omega), Lib.hid (by rw [HNX.out]), trivial⟩, by simp [intOf]; omega⟩
            · obtain rfl : k = b := by omega
              rw [List.take_of_length_le (by rw [HDL.out]; exact Nat.le_refl _)] at hz
              have hz256 : z < 256 := by
                have := valN_lt HDB.out
                rw [HDL.out, ← hz.out] at this
                omega
              rw [← hz.out] at HSN
              have hmade : Byt (wO.alloc (.cells #[.int .u8 (z : Int)] 5)) (wO.heap.size + 1) (.slice (some ⟨wO.heap.size, 0, none⟩) 1 1) [b8 (z : Int)] :=
                Byt.made wO _ [_] [b8 (z : Int)] (by rw [List.map_cons, List.map_nil, bv_b8_of (by omega) (by omega)]) (by unfold maxLen; simp)
              have hbs3 := hbel.size
              have hlen3 : (outsN k L q).length ≤ 160008 := by
                rw [outsN_length]
                have h1 := hat.out
                have h2 : 1 * q ≤ k * q := Nat.mul_le_mul_right q hb0
                omega
              have hoa : (wO.alloc (.cells #[.int .u8 (z : Int)] 5)).ownsRow w2.heap.size 5 1 (.slice Av3 (outsN k L q).length cv3) (outsN k L q).length ((outsN k L q).map bv) := World.ownsRow.alloc hown _
              have HOA := Lib.hid hoa
              have hat2 : at_ + k = k * (q + 1) := by rw [Nat.mul_add, Nat.mul_one, ← hat.out]
              have HAT2 := Lib.hid hat2
              clear hoa hown hat2 hz
              go_wp2_with (at_builtin; refine wpList_append_bytes rfl (.tmp 74) (.tmp 76) 23 rfl w2.heap.size 5 i0 slice_u8 hi hz0 hz1 hz2 _ (outsN k L q).length ((outsN k L q).map bv) rfl HOA.out (wO.heap.size + 1) _ [b8 (z : Int)] rfl hmade (by simp; omega) (by simp; omega) ?_; intro v1 w1 hown1 hg1 hat1)
              have hb1' : Below w2.heap.size w2 w1 := (hbel.alloc hbs3 _).grown hg1 (by simp; omega) (fun j hj => (HOA.out.lt j hj).1)
              refine ⟨⟨q + 1, at_ + k, HAT2, by omega, by go_num, ?_, hb1'⟩, by simp [intOf]; omega⟩
              rw [HSN.out]
              unfold OwnB
              rw [List.length_append, List.map_append]
              exact hown1
        · have hcd : decide ((at_ : Int) + (b : Int) ≤ (nL : Int)) = false := decide_eq_false (by omega)
          obtain ⟨hv, hhv⟩ : ∃ hv, hv = nL - at_ := ⟨_, rfl⟩
          have ehv : (nL : Int) - (at_ : Int) = (hv : Int) := by omega
          have hvb : hv < b := by omega
          obtain ⟨D, hD⟩ : ∃ D, D = L.drop (b * q) := ⟨_, rfl⟩
          have hDl : D.length = hv := by rw [hD, List.length_drop, ← hat.out, ← HNL.out]; omega
          have hDb : Bin D := by rw [hD]; exact fun x hx => HLB.out x (List.mem_of_mem_drop hx)
          have hleft : Left b (bitsAll a ds) q hv (valN D) := ⟨by rw [← HL.out, ← HNL.out, ← hat.out]; omega, by rw [hD, HL.out]⟩
          have hreg := HR.out q hv (valN D) hall.out hleft hvb
          rw [← HL.out] at hreg
          have hDat : ∀ (k y : Nat), D[k]? = some y → L[at_ + k]? = some y := by
            intro k y h
            rw [hD, List.getElem?_drop, ← hat.out] at h
            exact h
          obtain ⟨Av3, cv3, hv3⟩ := hown.form
          subst hv3
          have hq3 : (outsN b L q).length ≤ 160008 := by
            rw [outsN_length]
            have h1 := hat.out
            have h2 : 1 * q ≤ b * q := Nat.mul_le_mul_right q hb0
            omega
          have HREG := Lib.hid hreg
          have HDAT := Lib.hid hDat
          have HDB := Lib.hid hDb
          have HDL := Lib.hid hDl
          have HOUT := Lib.hid (hown.weaken (b' := w.heap.size) HB2.out.size)
          have HBF := Lib.hid (HB2.out.trans (hbel.mono HB2.out.size))
          clear hD hDl hDb hleft hreg hDat hhv HR HRB hall
          cases pad with
          | false =>
            by_cases h1 : a ≤ hv
            · have hd1 : decide (a ≤ hv) = true := decide_eq_true h1
              have hd2 : decide ((a : Int) ≤ (hv : Int)) = true := decide_eq_true (by omega)
              have HRE : Hid (regS a b false ds = (3, [])) := Lib.hid (by rw [HREG.out, if_neg (by simp), if_pos (.inl h1)])
              go_wp2
              go_ret2
              exact ⟨_, by rw [HRE.out]; rfl, by rw [HRE.out]; exact OwnB.nil _ _, HBF.out⟩
            · have hd1 : decide (a ≤ hv) = false := decide_eq_false h1
              have hd2 : decide ((a : Int) ≤ (hv : Int)) = false := decide_eq_false (by omega)
              go_wp2_with fail
              go_loopw [13] (fun j wx => ∃ m j2 : Nat, m ≤ hv ∧ j2 = at_ + m ∧ j = .int .i64 j2 ∧ Hid (∀ x ∈ D.take m, x = 0) ∧ wO = wx) (fun j _ => nL - (intOf j).toNat)
              case atStart => exact ⟨0, at_, Nat.zero_le _, rfl, rfl, Lib.hid (by simp), rfl⟩
              case round =>
                obtain ⟨m, j2, hm, hj2, rfl, hzero, rfl⟩ := hrel
                by_cases hmh : m < hv
                · obtain ⟨y, hy⟩ : ∃ y, D[m]? = some y := ⟨_, List.getElem?_eq_getElem (by rw [HDL.out]; exact hmh)⟩
                  obtain ⟨gA, oA, rfl, hgA, hcA⟩ := HCA.out _ _ (HDAT.out _ _ hy)
                  have hcA2 : wO.cell? ⟨gA, oA + (at_ + m), none⟩ = some (.int .u8 (y : Int)) := (hbel.cell (p := ⟨gA, _, none⟩) hgA).trans hcA
                  rw [← hj2] at hcA2
                  have hy2 := HDB.out y (List.mem_of_getElem? hy)
                  have hj3 : j2 < nL := by omega
                  have HJ2 := Lib.hid hj2
                  have HY := Lib.hid hy
                  clear hcA hj2 hy
                  by_cases hy0 : y = 0
                  · subst hy0
                    have HZ2 : Hid (∀ x ∈ D.take (m + 1), x = 0) := Lib.hid (fun x hx => by
                      rw [List.take_add_one, HY.out] at hx
                      rcases List.mem_append.1 hx with h | h
                      · exact hzero.out x h
                      · simpa using h)
                    go_wp2
                    exact ⟨⟨m + 1, j2 + 1, by omega, by have := HJ2.out; omega, by go_num, HZ2, trivial⟩, by simp [intOf]; omega⟩
                  · have hd3 : ((y : Int) != 0) = true := by simp; omega
                    have HNZ : Hid (regS a b false ds = (3, [])) := Lib.hid (by
                      rw [HREG.out, if_neg (by simp), if_pos (.inr fun h => hy0 (valN_zero h y (List.mem_of_getElem? HY.out)))])
                    go_wp2
                    go_ret2
                    exact ⟨_, by rw [HNZ.out]; rfl, by rw [HNZ.out]; exact OwnB.nil _ _, HBF.out⟩
                · have hz0' : valN D = 0 := by
                    have h := hzero.out
                    rw [List.take_of_length_le (by rw [HDL.out]; omega)] at h
                    have e : D = List.replicate D.length 0 := List.eq_replicate_iff.2 ⟨rfl, h⟩
                    rw [e]; exact valN_zeros _
                  have hj4 : j2 = nL := by omega
                  have HRE : Hid (regS a b false ds = (0, outsN b L q)) := Lib.hid (by rw [HREG.out, if_neg (by simp), if_neg (by omega)])
                  clear hz0' hj2
                  subst hj4
                  go_wp2
                  go_ret2
                  exact ⟨_, by rw [HRE.out]; rfl, by rw [HRE.out]; exact HOUT.out, HBF.out⟩
          | true =>
            by_cases h1 : 0 < hv
            · have hd1 : decide (0 < hv) = true := decide_eq_true h1
              have hd2 : decide ((0 : Int) < (hv : Int)) = true := decide_eq_true (by omega)
              obtain ⟨E, hE⟩ : ∃ E, E = D ++ List.replicate (b - hv) 0 := ⟨_, rfl⟩
              have hEl : E.length = b := by rw [hE, List.length_append, List.length_replicate, HDL.out]; omega
              have hEb : Bin E := by
                rw [hE]
                intro x hx
                rcases List.mem_append.1 hx with h | h
                · exact HDB.out x h
                · rw [List.eq_of_mem_replicate h]; omega
              have hElo : ∀ k, k < hv → E[k]? = D[k]? := fun k hk => by rw [hE, List.getElem?_append_left (by rw [HDL.out]; exact hk)]
              have hEhi : ∀ k, hv ≤ k → k < b → E[k]? = some 0 := fun k hk hkb => by
                rw [hE, List.getElem?_append_right (by rw [HDL.out]; exact hk), HDL.out, List.getElem?_replicate, if_pos (by omega)]
              have HRE : Hid (regS a b true ds = (0, outsN b L q ++ [b8 ((valN E : Nat) : Int)])) := Lib.hid (by
                rw [HREG.out, if_pos rfl, if_pos h1, hE, valN_append, valN_zeros, List.length_replicate, Nat.add_zero])
              have HEL := Lib.hid hEl
              have HEB := Lib.hid hEb
              have HELO := Lib.hid hElo
              have HEHI := Lib.hid hEhi
              clear hE hEl hEb hElo hEhi
              go_wp2_with fail
              go_loopw [18, 17] (fun j v wx => ∃ k z : Nat, k ≤ b ∧ j = .int .i64 k ∧ v = .int .u8 z ∧ Hid (z = valN (E.take k)) ∧ wO = wx) (fun j _ _ => b - (intOf j).toNat)
              case atStart => exact ⟨0, 0, Nat.zero_le _, rfl, rfl, Lib.hid (by simp [valN]), rfl⟩
              case round =>
                obtain ⟨k, z, hk, rfl, rfl, hz, rfl⟩ := hrel
                by_cases hkb : k < b
                · have hzl := valN_take_lt HEB.out k
                  rw [← hz.out] at hzl
                  have hz128 : z < 128 := Nat.lt_of_lt_of_le hzl (show 2 ^ k ≤ 2 ^ 7 from Nat.pow_le_pow_right (by omega) (by omega))
                  obtain ⟨j, hj⟩ : ∃ j, j = at_ + k := ⟨_, rfl⟩
                  have e1 : (at_ : Int) + (k : Int) = (j : Int) := by omega
                  by_cases hkh : k < hv
                  · obtain ⟨y, hy⟩ : ∃ y, D[k]? = some y := ⟨_, List.getElem?_eq_getElem (by rw [HDL.out]; exact hkh)⟩
                    obtain ⟨gA, oA, rfl, hgA, hcA⟩ := HCA.out _ _ (HDAT.out _ _ hy)
                    have hcA2 : wO.cell? ⟨gA, oA + (at_ + k), none⟩ = some (.int .u8 (y : Int)) := (hbel.cell (p := ⟨gA, _, none⟩) hgA).trans hcA
                    rw [← hj] at hcA2
                    have hy2 := HDB.out y (List.mem_of_getElem? hy)
                    have hnx := valN_take (l := E) (k := k) (by rw [HELO.out k hkh]; exact hy)
                    rw [← hz.out] at hnx
                    have HNX := Lib.hid hnx
                    have hjn : j < nL := by omega
                    have hd5 : decide ((j : Int) < (nL : Int)) = true := decide_eq_true (by omega)
                    clear hnx hzl hz hcA hj hy
                    go_wp2
                    exact ⟨⟨k + 1, 2 * z + y, by omega, by go_num, by first | go_num | (congr 1; omega), Lib.hid (by rw [HNX.out]), trivial⟩, by simp [intOf]; omega⟩
                  · have hnx := valN_take (l := E) (k := k) (HEHI.out k (by omega) hkb)
                    rw [← hz.out] at hnx
                    have HNX := Lib.hid hnx
                    have hjn : ¬ j < nL := by omega
                    have hd5 : decide ((j : Int) < (nL : Int)) = false := decide_eq_false (by omega)
                    clear hnx hzl hz hj
                    go_wp2
                    exact ⟨⟨k + 1, 2 * z + 0, by omega, by go_num, by first | go_num | (congr 1; omega), Lib.hid (by rw [HNX.out]), trivial⟩, by simp [intOf]; omega⟩
                · obtain rfl : k = b := by omega
                  rw [List.take_of_length_le (by rw [HEL.out]; exact Nat.le_refl _)] at hz
                  have hz256 : z < 256 := by
                    have := valN_lt HEB.out
                    rw [HEL.out, ← hz.out] at this
                    omega
                  rw [← hz.out] at HRE
                  have hmade : Byt (wO.alloc (.cells #[.int .u8 (z : Int)] 5)) (wO.heap.size + 1) (.slice (some ⟨wO.heap.size, 0, none⟩) 1 1) [b8 (z : Int)] :=
                    Byt.made wO _ [_] [b8 (z : Int)] (by rw [List.map_cons, List.map_nil, bv_b8_of (by omega) (by omega)]) (by unfold maxLen; simp)
                  have hbs3 := HBF.out.size
                  have hoa : (wO.alloc (.cells #[.int .u8 (z : Int)] 5)).ownsRow w.heap.size 5 1 (.slice Av3 (outsN k L q).length cv3) (outsN k L q).length ((outsN k L q).map bv) := World.ownsRow.alloc HOUT.out _
                  have HOA := Lib.hid hoa
                  clear hoa hown hz
                  go_wp2_with (at_builtin; refine wpList_append_bytes rfl (.tmp 111) (.tmp 113) 23 rfl w.heap.size 5 i0 slice_u8 hi hz0 hz1 hz2 _ (outsN k L q).length ((outsN k L q).map bv) rfl HOA.out (wO.heap.size + 1) _ [b8 (z : Int)] rfl hmade (by simp; omega) (by simp; omega) ?_; intro v1 w1 hown1 hg1 hat1; obtain ⟨Av4, cv4, rfl⟩ := own_form hown1)
                  have hb1' : Below w.heap.size w w1 := (HBF.out.alloc hbs3 _).grown hg1 (by simp; omega) (fun j hj => (HOA.out.lt j hj).1)
                  have HOWN := Lib.hid hown1
                  clear hown1
                  go_wp2
                  go_ret2
                  refine ⟨_, by rw [HRE.out]; rfl, ?_, hb1'⟩
                  rw [HRE.out]
                  unfold OwnB
                  rw [List.length_append, List.map_append]
                  exact HOWN.out
            · have hd1 : decide (0 < hv) = false := decide_eq_false h1
              have hd2 : decide ((0 : Int) < (hv : Int)) = false := decide_eq_false (by omega)
              have HRE : Hid (regS a b true ds = (0, outsN b L q)) := Lib.hid (by rw [HREG.out, if_pos rfl, if_neg h1])
              go_wp2
              go_ret2
              exact ⟨_, by rw [HRE.out]; rfl, by rw [HRE.out]; exact HOUT.out, HBF.out⟩
end Go.Proofs.YtgiljhdjknglpaaDoor

/-
  The references' Spare and Kept: a copy with tinted room behind it, and whether it is still as it was. Conditions: sizes within the reach.
-/
namespace Go.Proofs.YtgiljhdjknglpaaDoor
open Go.RowKit

/-- The bytes, and nine tinted ones behind them. -/
def tinted (bs : List UInt8) : List UInt8 := bs ++ (List.range 9).map fun k => b8 (201 + (bs.length + k : Nat))
theorem tinted_length (bs : List UInt8) : (tinted bs).length = bs.length + 9 := by simp [tinted]
theorem tinted_low {bs : List UInt8} {i : Nat} (h : i < bs.length) : (tinted bs)[i]? = bs[i]? := by
  unfold tinted
  rw [List.getElem?_append_left h]
theorem tinted_high {bs : List UInt8} {i : Nat} (h : bs.length ≤ i) (h2 : i < bs.length + 9) : (tinted bs)[i]? = some (b8 (201 + (i : Int))) := by
  unfold tinted
  rw [List.getElem?_append_right h, List.getElem?_map, List.getElem?_range (by omega)]
  simp
  congr 1
  omega

/-- Behind i rounds: the first i bytes are as they will be, the rest is zero. -/
def Fill (w : World) (g i : Nat) (bs : List UInt8) (wr : World) : Prop :=
  ∃ zs, zs = (tinted bs).take i ++ List.replicate (bs.length + 9 - i) 0 ∧ Row wr g zs ∧ Below w.heap.size w wr

theorem fill_next {w wr w' : World} {g i : Nat} {bs zs : List UInt8} {c : UInt8} (hi : i < bs.length + 9) (hc : (tinted bs)[i]? = some c) (hz : zs = (tinted bs).take i ++ List.replicate (bs.length + 9 - i) 0)
    (hr : Row w' g (zs.set i c)) (_hb : Below w.heap.size w wr) (hb' : Below w.heap.size w w') : Fill w g (i + 1) bs w' :=
  ⟨_, set_next (by rw [tinted_length]; exact hi) hc hz (by rw [tinted_length]), hr, hb'⟩

theorem fill_zero {bs zs : List UInt8} {i : Nat} (hi : i < bs.length + 9) (hz : zs = (tinted bs).take i ++ List.replicate (bs.length + 9 - i) 0) : zs[i]? = some 0 := by
  subst hz
  have hl : ((tinted bs).take i).length = i := by rw [List.length_take, tinted_length]; omega
  rw [List.getElem?_append_right (by omega), hl, Nat.sub_self]
  obtain ⟨m, hm⟩ : ∃ m, bs.length + 9 - i = m + 1 := ⟨bs.length + 9 - i - 1, by omega⟩
  rw [hm, List.replicate_succ]
  rfl

end Go.Proofs.YtgiljhdjknglpaaDoor

/-
  The references' Kept: true, where the whole is as Spare made it. Conditions: sizes within the reach.
-/
namespace Go.Proofs.YtgiljhdjknglpaaDoor
open Go.RowKit

end Go.Proofs.YtgiljhdjknglpaaDoor
