/-
  text.ascending: the same number in digits of another base. Conditions: the bases are from 2 to 256; sizes within the reach.
-/
import Derived.Test.YtpaafkhlelljcaaDoorAscPure
namespace Go.Proofs.YtpaafkhlelljcaaDoor
open Go.RowKit

/-- The first m digits are those of N, the others still those of M. -/
def mixL (b N M k m : Nat) : List UInt8 := digitsL b N m ++ (digitsL b M k).drop m
theorem mixL_length {b N M k m : Nat} (h : m ≤ k) : (mixL b N M k m).length = k := by simp [mixL, digitsL_length]; omega
theorem mixL_at {b N M k m : Nat} (h : m < k) : (mixL b N M k m)[m]? = some (digN b M m) := by
  unfold mixL
  rw [List.getElem?_append_right (by rw [digitsL_length]; omega), digitsL_length, Nat.sub_self, List.getElem?_drop, Nat.add_zero, digitsL_at h]
theorem mixL_set {b N M k m : Nat} (h : m < k) : (mixL b N M k m).set m (digN b N m) = mixL b N M k (m + 1) := by
  unfold mixL
  rw [List.set_append_right _ _ (by rw [digitsL_length]; omega), digitsL_length, Nat.sub_self]
  have hd : (digitsL b M k).drop m = digN b M m :: (digitsL b M k).drop (m + 1) := by
    rw [List.drop_eq_getElem_cons (by rw [digitsL_length]; exact h)]
    have := digitsL_at (b := b) (N := M) h
    rw [List.getElem?_eq_some_iff] at this
    rw [this.2]
  rw [hd, List.set_cons_zero, digitsL_succ]
  simp
theorem mixL_zero (b N M k : Nat) : mixL b N M k 0 = digitsL b M k := by simp [mixL, digitsL]
theorem mixL_all (b N M k : Nat) : mixL b N M k k = digitsL b N k := by
  unfold mixL
  rw [List.drop_eq_nil_of_le (by rw [digitsL_length]; exact Nat.le_refl _), List.append_nil]

set_option maxRecDepth 100000 in
set_option maxHeartbeats 3200000 in
theorem asc_any (B : Nat) (x : Value) (ds : List UInt8) (f b : Nat) (w : World) (hx : Byt w B x ds) (hB : B ≤ w.heap.size) (hl : ds.length ≤ 60000) (hf0 : 2 ≤ f) (hf1 : f ≤ 256) (hb0 : 2 ≤ b) (hb1 : b ≤ 256) (hds : ∀ d ∈ ds, d.toNat < f) :
    Calls Tryd.prog 65 #[x, .int .i64 f, .int .i64 b] w fun e w' => ∃ v out, e = .returned v ∧ AscOf b (valF f ds) out ∧ OwnB w' w.heap.size v out ∧ Below w.heap.size w w' := by
  obtain ⟨i0, hi, hz0, hz1, hz2⟩ := info_parts info_u8
  obtain ⟨A, c, hxf⟩ := hx.form
  subst hxf
  have hX := Lib.hid hx
  have HDS := Lib.hid hds
  clear hx hds
  go_enter Tryd.func65, Tryd.ntmps65
  go_wp2_with fail
  go_loopw [15, 7] (fun j v wr => ∃ i k : Nat, i ≤ ds.length ∧ j = .int .i64 i ∧ OwnB wr w.heap.size v (digitsL b (valF f (ds.take i)) k) ∧ Hid (valF f (ds.take i) / b ^ k = 0 ∧ ∀ j, j < k → valF f (ds.take i) / b ^ j ≠ 0) ∧ Below w.heap.size w wr) (fun j _ _ => ds.length - (intOf j).toNat)
  case atStart => exact ⟨0, 0, Nat.zero_le _, rfl, OwnB.nil _ _, Lib.hid ⟨by simp [valF], fun j h => by omega⟩, Below.refl _ _⟩
  case round =>
    obtain ⟨i, k, hi2, rfl, hown, hasc, hbel⟩ := hrel
    by_cases hlt : i < ds.length
    · obtain ⟨A', c', e0, _, _, _, h4⟩ := hX.out
      injection e0 with e1 e2 e3
      subst e1 e3
      obtain ⟨bb, o, rfl, hbb, hbc⟩ := h4 (by rintro rfl; simp at hlt)
      have hci := hbc i _ (List.getElem?_eq_getElem hlt)
      obtain ⟨q, hq⟩ : ∃ q, q = ds[i] := ⟨_, rfl⟩
      rw [← hq] at hci
      have hbi : wr.cell? ⟨bb, o + i, none⟩ = some (.int .u8 (q.toNat : Int)) := (hbel.cell (p := ⟨bb, _, none⟩) (by show bb < _; omega)).trans hci
      have hqi : ds[i]? = some q := by rw [hq]; exact List.getElem?_eq_getElem hlt
      have hqf : q.toNat < f := HDS.out q (List.mem_of_getElem? hqi)
      obtain ⟨M, hM⟩ : ∃ M, M = valF f (ds.take i) := ⟨_, rfl⟩
      obtain ⟨N, hN⟩ : ∃ N, N = M * f + q.toNat := ⟨_, rfl⟩
      have hnext : valF f (ds.take (i + 1)) = N := by rw [valF_snoc f hqi, ← hM, ← hN]
      rw [← hM] at hown hasc
      have hk8 : k ≤ 480000 := by
        have h1 := valF_lt hf1 (by omega) (ds.take i) (fun d hd => HDS.out d (List.mem_of_mem_take hd))
        rw [← hM] at h1
        have h2 := (AscOf.short (b := b) ⟨k, rfl, hasc.out.1, hasc.out.2⟩ hb0 h1)
        rw [digitsL_length, List.length_take] at h2
        omega
      have HNX := Lib.hid hnext
      have HNN := Lib.hid hN
      clear hbc h4 hq hqi hci hM hnext hN
      obtain ⟨Av, cv, hv⟩ := hown.form
      subst hv
      rw [digitsL_length] at hown ⊢
      have hq256 := q.toNat_lt
      go_wp2_with fail
      go_loopw [23, 10] (fun j2 cc wx => ∃ m cr : Nat, m ≤ k ∧ j2 = .int .i64 m ∧ cc = .int .i64 cr ∧ cr < f ∧ Hid (N / b ^ m = cr + M / b ^ m * f) ∧ OwnB wx w.heap.size (.slice Av k cv) (mixL b N M k m) ∧ Below w.heap.size w wx) (fun j2 _ _ => k - (intOf j2).toNat)
      case atStart => exact ⟨0, q.toNat, Nat.zero_le _, rfl, rfl, hqf, Lib.hid (by rw [HNN.out]; simp; omega), by rw [mixL_zero]; exact hown, hbel⟩
      case round =>
        obtain ⟨m, cr, hm, rfl, rfl, hcr, heq, hown2, hbel2⟩ := hrel
        by_cases hmk : m < k
        · obtain ⟨g, c2, e, hg1, hg2, hg3⟩ := hown2.block (by rw [mixL_length hm]; omega)
          injection e with e1 e2 e3
          subst e1 e3
          clear e2
          rw [mixL_length hm] at hg3
          have hcell := hown2.cell (mixL_at (b := b) (N := N) (M := M) hmk)
          have hfree := hown2.free m
          obtain ⟨t1, t2, t3⟩ := carry_next hb0 (by omega) hcr heq.out
          have hdn := digN_nat (b := b) (N := M) (j := m) (by omega) hb1
          have hdN := digN_nat (b := b) (N := N) (j := m) (by omega) hb1
          obtain ⟨lo, hlo⟩ : ∃ lo, lo = M / b ^ m % b := ⟨_, rfl⟩
          rw [← hlo] at t1 t2 t3 hdn
          have hlob : lo < b := by rw [hlo]; exact Nat.mod_lt _ (by omega)
          obtain ⟨p, hp⟩ : ∃ p, p = lo * f := ⟨_, rfl⟩
          rw [← hp] at t1 t2 t3
          have hpb : p ≤ 65536 := by
            rw [hp]
            exact Nat.mul_le_mul (show lo ≤ 256 by omega) hf1
          obtain ⟨r, hr⟩ : ∃ r, r = (cr + p) % b := ⟨_, rfl⟩
          obtain ⟨u, hu⟩ : ∃ u, u = (cr + p) / b := ⟨_, rfl⟩
          rw [← hr] at t1
          rw [← hu] at t2 t3
          rw [← t1] at hdN
          have hrb : r < b := by rw [hr]; exact Nat.mod_lt _ (by omega)
          have hcell2 : wr.cell? ⟨g, m, none⟩ = some (.int .u8 (lo : Int)) := by rw [hcell]; unfold bv; rw [hdn]
          have hset := hown2.set m (digN b N m)
          rw [mixL_set hmk] at hset
          have hbvr : bv (digN b N m) = .int .u8 (r : Int) := by unfold bv; rw [hdN]
          rw [hbvr] at hset
          have e1 : (lo : Int) * (f : Int) = (p : Int) := by rw [hp]; simp
          have e2 : ((cr : Int) + (p : Int)) % (b : Int) = (r : Int) := by rw [hr]; simp
          have e3 : ((cr : Int) + (p : Int)) / (b : Int) = (u : Int) := by rw [hu]; simp
          have e4 : ¬ ((b : Int) = 0) := by omega
          have hbs := hbel2.setCell (p := ⟨g, m, none⟩) hg1 (.int .u8 (r : Int))
          have HSET := Lib.hid hset
          have HT2 := Lib.hid t2
          have HBS := Lib.hid hbs
          clear hset t2 hbs hp hr hu t1 hdn hdN hbvr hcell heq hlo
          go_wp2
          exact ⟨⟨m + 1, u, by omega, by go_num, congrArg (Value.int .i64) e3, t3, HT2, HSET.out, HBS.out⟩, by simp [intOf]; omega⟩
        · obtain rfl : m = k := by omega
          have hN0 : N / b ^ m = cr := by
            have h := heq.out
            rw [hasc.out.1, Nat.zero_mul, Nat.add_zero] at h
            exact h
          have hNj : ∀ j, j < m → N / b ^ j ≠ 0 := fun j hj h0 => by
            have h1 := hasc.out.2 j hj
            have h2 : M ≤ N := by
              rw [HNN.out]
              have := Nat.mul_le_mul_left M (show 1 ≤ f by omega)
              omega
            have h3 := Nat.div_le_div_right (c := b ^ j) h2
            rw [h0] at h3
            exact h1 (Nat.eq_zero_of_le_zero h3)
          have hNlt : N < 2 ^ (8 * ds.length) := by
            have h1 := valF_lt hf1 (by omega) (ds.take (i + 1)) (fun d hd => HDS.out d (List.mem_of_mem_take hd))
            rw [HNX.out] at h1
            refine Nat.lt_of_lt_of_le h1 (Nat.pow_le_pow_right (by omega) ?_)
            rw [List.length_take]
            omega
          have hcr0 : cr ≤ 256 := by omega
          rw [mixL_all] at hown2
          have HN0 := Lib.hid hN0
          have HNJ := Lib.hid hNj
          have HNL := Lib.hid hNlt
          clear heq hN0 hNj hNlt
          go_wp2_with fail
          go_loopw [10, 7] (fun cc vv wx => ∃ m cr : Nat, cc = .int .i64 cr ∧ cr ≤ 256 ∧ Hid (N / b ^ m = cr ∧ ∀ j, j < m → N / b ^ j ≠ 0) ∧ OwnB wx w.heap.size vv (digitsL b N m) ∧ Below w.heap.size w wx) (fun cc _ _ => (intOf cc).toNat)
          case atStart => exact ⟨m, cr, rfl, hcr0, Lib.hid ⟨HN0.out, HNJ.out⟩, hown2, hbel2⟩
          case round =>
            obtain ⟨m, cr, rfl, hcr0, hm, hown3, hbel3⟩ := hrel
            by_cases hpos : 0 < cr
            · have hmb : m ≤ 480000 := by
                have := digits_short hb0 HNL.out hm.out.2
                omega
              obtain ⟨r, hr⟩ : ∃ r, r = cr % b := ⟨_, rfl⟩
              obtain ⟨u, hu⟩ : ∃ u, u = cr / b := ⟨_, rfl⟩
              have hrb : r < b := by rw [hr]; exact Nat.mod_lt _ (by omega)
              have hucr : u < cr := by rw [hu]; exact Nat.div_lt_self hpos hb0
              have e2 : (cr : Int) % (b : Int) = (r : Int) := by rw [hr]; simp
              have e3 : (cr : Int) / (b : Int) = (u : Int) := by rw [hu]; simp
              have e4 : ¬ ((b : Int) = 0) := by omega
              have hdN : digN b N m = b8 (r : Int) := by unfold digN; rw [hm.out.1, ← hr]
              have hnx : N / b ^ (m + 1) = u := by rw [div_next, hm.out.1, hu]
              have hsn : digitsL b N (m + 1) = digitsL b N m ++ [b8 (r : Int)] := by rw [digitsL_succ, hdN]
              have hnj : ∀ j, j < m + 1 → N / b ^ j ≠ 0 := fun j hj => by
                by_cases hjm : j < m
                · exact hm.out.2 j hjm
                · have : j = m := by omega
                  rw [this, hm.out.1]; omega
              have hmade : Byt (wr.alloc (.cells #[.int .u8 (r : Int)] 5)) (wr.heap.size + 1) (.slice (some ⟨wr.heap.size, 0, none⟩) 1 1) [b8 (r : Int)] :=
                Byt.made wr _ [_] [b8 (r : Int)] (by rw [List.map_cons, List.map_nil, bv_b8_of (by omega) (by omega)]) (by unfold maxLen; simp)
              obtain ⟨Av3, cv3, hv3⟩ := hown3.form
              subst hv3
              have hbs3 := hbel3.size
              have hlen3 : (digitsL b N m).length ≤ 480000 := by rw [digitsL_length]; exact hmb
              have hoa : (wr.alloc (.cells #[.int .u8 (r : Int)] 5)).ownsRow w.heap.size 5 1 (.slice Av3 (digitsL b N m).length cv3) (digitsL b N m).length ((digitsL b N m).map bv) := World.ownsRow.alloc hown3 _
              have HOA := Lib.hid hoa
              have HNXX := Lib.hid (And.intro hnx hnj)
              have HSN := Lib.hid hsn
              clear hr hu hdN hnx hsn hnj hoa hm
              go_wp2_with (at_builtin; refine wpList_append_bytes rfl (.tmp 50) (.tmp 55) 22 rfl w.heap.size 5 i0 slice_u8 hi hz0 hz1 hz2 _ (digitsL b N m).length ((digitsL b N m).map bv) rfl HOA.out (wr.heap.size + 1) _ [b8 (r : Int)] rfl hmade (by simp; omega) (by simp; omega) ?_; intro v1 w1 hown1 hg1 hat1)
              have hb1' : Below w.heap.size w w1 := (hbel3.alloc hbs3 _).grown hg1 (by simp; omega) (fun j hj => (HOA.out.lt j hj).1)
              refine ⟨⟨m + 1, u, rfl, by omega, HNXX, ?_, hb1'⟩, by simp [intOf]; omega⟩
              rw [HSN.out]
              unfold OwnB
              rw [List.length_append, List.map_append]
              exact hown1
            · obtain rfl : cr = 0 := by omega
              go_wp2
              exact ⟨⟨i + 1, m, by omega, by go_num, by rw [HNX.out]; exact hown3, Lib.hid (by rw [HNX.out]; exact hm.out), hbel3⟩, by simp [intOf]; omega⟩
    · have hie : ds.take i = ds := List.take_of_length_le (by omega)
      rw [hie] at hasc hown
      have HO := Lib.hid hown
      clear hie hown
      go_wp2
      refine bodyPost_ret (results_tmp rfl _ _ _) rfl ?_
      exact ⟨_, _, rfl, ⟨k, rfl, hasc.out.1, hasc.out.2⟩, HO.out, hbel⟩
end Go.Proofs.YtpaafkhlelljcaaDoor
