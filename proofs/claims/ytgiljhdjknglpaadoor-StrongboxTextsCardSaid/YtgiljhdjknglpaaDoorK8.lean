/-
  Texts joined: AscPure, Asc, Backw. Conditions: those of each.
-/
import Derived.Test.YtgiljhdjknglpaaDoorK6
import Derived.RangeFuncNested
import Derived.RangeFuncBound
import Derived.RangeFuncCalls
import Derived.RangeFuncLeaves
import Derived.RangeFuncBox
import Derived.Shelf.Abstract
import Derived.Shelf.RegionOpen
import Derived.OwnWalkIn
import Derived.TacticsInMore
import Derived.LoopNIn
import Derived.LoopIn
import Derived.Test.YtgiljhdjknglpaaDoorK1
/-
  A number's digits, the least one first. Conditions: none (plain mathematics).
-/
namespace Go.Proofs.YtgiljhdjknglpaaDoor
open Go.RowKit

def valF (b : Nat) (ds : List UInt8) : Nat := ds.foldl (fun a d => a * b + d.toNat) 0
theorem valF_snoc (b : Nat) {ds : List UInt8} {i : Nat} {d : UInt8} (h : ds[i]? = some d) : valF b (ds.take (i + 1)) = valF b (ds.take i) * b + d.toNat := by
  unfold valF
  rw [List.take_add_one, h, List.foldl_append]
  rfl
/-- The j-th digit. -/
def digN (b N j : Nat) : UInt8 := b8 ((N / b ^ j % b : Nat) : Int)
def digitsL (b N k : Nat) : List UInt8 := (List.range k).map (digN b N)
theorem digitsL_length (b N k : Nat) : (digitsL b N k).length = k := by simp [digitsL]
theorem digitsL_succ (b N k : Nat) : digitsL b N (k + 1) = digitsL b N k ++ [digN b N k] := by simp [digitsL, List.range_succ]
theorem digitsL_at {b N k j : Nat} (h : j < k) : (digitsL b N k)[j]? = some (digN b N j) := by
  unfold digitsL
  rw [List.getElem?_map, List.getElem?_range h]
  rfl
theorem digN_nat {b N j : Nat} (h0 : 0 < b) (h : b ≤ 256) : (digN b N j).toNat = N / b ^ j % b := by
  have h1 := b8_toNat ((N / b ^ j % b : Nat) : Int)
  have h2 := Nat.mod_lt (N / b ^ j) h0
  unfold digN
  omega
/-- The digits of N, none of them for nothing. -/
def AscOf (b N : Nat) (out : List UInt8) : Prop := ∃ k, out = digitsL b N k ∧ N / b ^ k = 0 ∧ ∀ j, j < k → N / b ^ j ≠ 0
theorem AscOf.zero (b : Nat) : AscOf b 0 [] := ⟨0, rfl, by simp, fun j h => by omega⟩
theorem AscOf.unique {b N : Nat} {x y : List UInt8} (hx : AscOf b N x) (hy : AscOf b N y) : x = y := by
  obtain ⟨k, rfl, hk, hkj⟩ := hx
  obtain ⟨m, rfl, hm, hmj⟩ := hy
  have h1 : ¬ k < m := fun h => hmj k h hk
  have h2 : ¬ m < k := fun h => hkj m h hm
  have : k = m := by omega
  rw [this]
theorem digits_short {b N m n : Nat} (hb : 2 ≤ b) (hN : N < 2 ^ n) (h : ∀ j, j < m → N / b ^ j ≠ 0) : m ≤ n := by
  rcases Nat.lt_or_ge n m with hl | hl
  · exfalso
    refine h n hl (Nat.div_eq_of_lt (Nat.lt_of_lt_of_le hN ?_))
    exact Nat.pow_le_pow_left hb n
  · exact hl
theorem AscOf.short {b N : Nat} {out : List UInt8} {n : Nat} (h : AscOf b N out) (hb : 2 ≤ b) (hN : N < 2 ^ n) : out.length ≤ n := by
  obtain ⟨k, rfl, hk, hkj⟩ := h
  rw [digitsL_length]
  exact digits_short hb hN hkj
theorem valF_lt {b : Nat} (hb : b ≤ 256) (_h1 : 0 < b) (ds : List UInt8) (hd : ∀ d ∈ ds, d.toNat < b) : valF b ds < 2 ^ (8 * ds.length) := by
  obtain ⟨r, hr⟩ : ∃ r, r = ds.reverse := ⟨_, rfl⟩
  have hp : ds = r.reverse := by rw [hr, List.reverse_reverse]
  rw [hp] at hd ⊢
  clear hp hr ds
  induction r with
  | nil => simp [valF]
  | cons d r ih =>
    have hd0 := hd d (by simp)
    have ih := ih (fun e he => hd e (by rw [List.reverse_cons]; exact List.mem_append_left _ he))
    have e : valF b (d :: r).reverse = valF b r.reverse * b + d.toNat := by
      unfold valF
      rw [List.reverse_cons, List.foldl_append]
      rfl
    rw [e]
    simp only [List.length_reverse, List.length_cons] at ih ⊢
    have h2 : 2 ^ (8 * (r.length + 1)) = 2 ^ (8 * r.length) * 256 := by
      rw [Nat.mul_add, Nat.pow_add]
    have h3 : (valF b r.reverse + 1) * b ≤ 2 ^ (8 * r.length) * 256 := Nat.mul_le_mul ih hb
    have h4 : (valF b r.reverse + 1) * b = valF b r.reverse * b + b := by rw [Nat.add_mul, Nat.one_mul]
    omega

/-- One digit more of M * f + d, while the old digits of M are turned. -/
theorem carry_next {b f M N m cr : Nat} (hb : 2 ≤ b) (_hf : 0 < f) (hcr : cr < f) (h : N / b ^ m = cr + M / b ^ m * f) :
    (cr + M / b ^ m % b * f) % b = N / b ^ m % b ∧ N / b ^ (m + 1) = (cr + M / b ^ m % b * f) / b + M / b ^ (m + 1) * f ∧ (cr + M / b ^ m % b * f) / b < f := by
  have e1 : M / b ^ (m + 1) = M / b ^ m / b := by rw [Nat.pow_succ, Nat.div_div_eq_div_mul]
  have e2 : N / b ^ (m + 1) = N / b ^ m / b := by rw [Nat.pow_succ, Nat.div_div_eq_div_mul]
  rw [e1, e2, h]
  generalize M / b ^ m = x
  obtain ⟨q, r, hq, hr, hx⟩ : ∃ q r, x / b = q ∧ x % b = r ∧ x = b * q + r := ⟨_, _, rfl, rfl, (Nat.div_add_mod x b).symm⟩
  have hrb : r < b := by rw [← hr]; exact Nat.mod_lt _ (by omega)
  rw [hq, hr]
  have h1 : cr + x * f = cr + r * f + b * (q * f) := by
    rw [hx, Nat.add_mul, Nat.mul_assoc]; omega
  rw [h1]
  refine ⟨(Nat.add_mul_mod_self_left _ _ _).symm, Nat.add_mul_div_left _ _ (by omega), ?_⟩
  rw [Nat.div_lt_iff_lt_mul (by omega)]
  have h2 : r * f ≤ (b - 1) * f := Nat.mul_le_mul_right _ (by omega)
  have h3 : (b - 1) * f + f = f * b := by
    have : (b - 1 + 1) * f = b * f := by rw [Nat.sub_add_cancel (by omega)]
    rw [Nat.add_mul, Nat.one_mul] at this
    rw [this, Nat.mul_comm]
  omega
theorem div_next {b N m : Nat} : N / b ^ (m + 1) = N / b ^ m / b := by rw [Nat.pow_succ, Nat.div_div_eq_div_mul]
end Go.Proofs.YtgiljhdjknglpaaDoor

/-
  text.ascending: the same number in digits of another base. Conditions: the bases are from 2 to 256; sizes within the reach.
-/
namespace Go.Proofs.YtgiljhdjknglpaaDoor
open Go.RowKit

/-- The first m digits are those of N, the others still those of M. -/
def mixL (b N M k m : Nat) : List UInt8 := digitsL b N m ++ (digitsL b M k).drop m
theorem mixL_length {b N M k m : Nat} (h : m ≤ k) : (mixL b N M k m).length = k := by simp [mixL, digitsL_length]; omega
theorem mixL_at {b N M k m : Nat} (h : m < k) : (mixL b N M k m)[m]? = some (digN b M m) := by
  unfold mixL
  rw [List.getElem?_append_right (by rw [digitsL_length]; omega), digitsL_length, Nat.sub_self, List.getElem?_drop, Nat.add_zero, digitsL_at h]
theorem mixL_set {b N M k m : Nat} (h : m < k) : (mixL b N M k m).set m (digN b N m) = mixL b N M k (m + 1) := by
  unfold mixL
  rw [List.set_append_right _ _ (by rw [digitsL_length]; omega), digitsL_length, Nat.sub_self]
  have hd : (digitsL b M k).drop m = digN b M m :: (digitsL b M k).drop (m + 1) := by
    rw [List.drop_eq_getElem_cons (by rw [digitsL_length]; exact h)]
    have := digitsL_at (b := b) (N := M) h
    rw [List.getElem?_eq_some_iff] at this
    rw [this.2]
  rw [hd, List.set_cons_zero, digitsL_succ]
  simp
theorem mixL_zero (b N M k : Nat) : mixL b N M k 0 = digitsL b M k := by simp [mixL, digitsL]
theorem mixL_all (b N M k : Nat) : mixL b N M k k = digitsL b N k := by
  unfold mixL
  rw [List.drop_eq_nil_of_le (by rw [digitsL_length]; exact Nat.le_refl _), List.append_nil]

set_option maxRecDepth 100000 in
set_option maxHeartbeats 3200000 in
theorem asc_any (B : Nat) (x : Value) (ds : List UInt8) (f b : Nat) (w : World) (hx : Byt w B x ds) (hB : B ≤ w.heap.size) (hl : ds.length ≤ 60000) (hf0 : 2 ≤ f) (hf1 : f ≤ 256) (hb0 : 2 ≤ b) (hb1 : b ≤ 256) (hds : ∀ d ∈ ds, d.toNat < f) :
    Calls Tryd.prog 57 #[x, .int .i64 f, .int .i64 b] w fun e w' => ∃ v out, e = .returned v ∧ AscOf b (valF f ds) out ∧ OwnB w' w.heap.size v out ∧ Below w.heap.size w w' := by
  obtain ⟨i0, hi, hz0, hz1, hz2⟩ := info_parts info_u8
  obtain ⟨A, c, hxf⟩ := hx.form
  subst hxf
  have hX := Lib.hid hx
  have HDS := Lib.hid hds
  clear hx hds
  go_enter Tryd.func57, Tryd.ntmps57
  go_wp2_with fail
  go_loopw [15, 7] (fun j v wr => ∃ i k : Nat, i ≤ ds.length ∧ j = .int .i64 i ∧ OwnB wr w.heap.size v (digitsL b (valF f (ds.take i)) k) ∧ Hid (valF f (ds.take i) / b ^ k = 0 ∧ ∀ j, j < k → valF f (ds.take i) / b ^ j ≠ 0) ∧ Below w.heap.size w wr) (fun j _ _ => ds.length - (intOf j).toNat)
  case atStart => exact ⟨0, 0, Nat.zero_le _, rfl, OwnB.nil _ _, Lib.hid ⟨by simp [valF], fun j h => by omega⟩, Below.refl _ _⟩
  case round =>
    obtain ⟨i, k, hi2, rfl, hown, hasc, hbel⟩ := hrel
    by_cases hlt : i < ds.length
    · obtain ⟨A', c', e0, _, _, _, h4⟩ := hX.out
      injection e0 with e1 e2 e3
      subst e1 e3
      obtain ⟨bb, o, rfl, hbb, hbc⟩ := h4 (by rintro rfl; simp at hlt)
      have hci := hbc i _ (List.getElem?_eq_getElem hlt)
      obtain ⟨q, hq⟩ : ∃ q, q = ds[i] := ⟨_, rfl⟩
      rw [← hq] at hci
      have hbi : wr.cell? ⟨bb, o + i, none⟩ = some (.int .u8 (q.toNat : Int)) := (hbel.cell (p := ⟨bb, _, none⟩) (by show bb < _; omega)).trans hci
      have hqi : ds[i]? = some q := by rw [hq]; exact List.getElem?_eq_getElem hlt
      have hqf : q.toNat < f := HDS.out q (List.mem_of_getElem? hqi)
      obtain ⟨M, hM⟩ : ∃ M, M = valF f (ds.take i) := ⟨_, rfl⟩
      obtain ⟨N, hN⟩ : ∃ N, N = M * f + q.toNat := ⟨_, rfl⟩
      have hnext : valF f (ds.take (i + 1)) = N := by rw [valF_snoc f hqi, ← hM, ← hN]
      rw [← hM] at hown hasc
      have hk8 : k ≤ 480000 := by
        have h1 := valF_lt hf1 (by omega) (ds.take i) (fun d hd => HDS.out d (List.mem_of_mem_take hd))
        rw [← hM] at h1
        have h2 := (AscOf.short (b := b) ⟨k, rfl, hasc.out.1, hasc.out.2⟩ hb0 h1)
        rw [digitsL_length, List.length_take] at h2
        omega
      have HNX := Lib.hid hnext
      have HNN := Lib.hid hN
      clear hbc h4 hq hqi hci hM hnext hN
      obtain ⟨Av, cv, hv⟩ := hown.form
      subst hv
      rw [digitsL_length] at hown ⊢
      have hq256 := q.toNat_lt
      go_wp2_with fail
      go_loopw [23, 10] (fun j2 cc wx => ∃ m cr : Nat, m ≤ k ∧ j2 = .int .i64 m ∧ cc = .int .i64 cr ∧ cr < f ∧ Hid (N / b ^ m = cr + M / b ^ m * f) ∧ OwnB wx w.heap.size (.slice Av k cv) (mixL b N M k m) ∧ Below w.heap.size w wx) (fun j2 _ _ => k - (intOf j2).toNat)
      case atStart => exact ⟨0, q.toNat, Nat.zero_le _, rfl, rfl, hqf, Lib.hid (by rw [HNN.out]; simp; omega), by rw [mixL_zero]; exact hown, hbel⟩
      case round =>
        obtain ⟨m, cr, hm, rfl, rfl, hcr, heq, hown2, hbel2⟩ := hrel
        by_cases hmk : m < k
        · obtain ⟨g, c2, e, hg1, hg2, hg3⟩ := hown2.block (by rw [mixL_length hm]; omega)
          injection e with e1 e2 e3
          subst e1 e3
          clear e2
          rw [mixL_length hm] at hg3
          have hcell := hown2.cell (mixL_at (b := b) (N := N) (M := M) hmk)
          have hfree := hown2.free m
          obtain ⟨t1, t2, t3⟩ := carry_next hb0 (by omega) hcr heq.out
          have hdn := digN_nat (b := b) (N := M) (j := m) (by omega) hb1
          have hdN := digN_nat (b := b) (N := N) (j := m) (by omega) hb1
          obtain ⟨lo, hlo⟩ : ∃ lo, lo = M / b ^ m % b := ⟨_, rfl⟩
          rw [← hlo] at t1 t2 t3 hdn
          have hlob : lo < b := by rw [hlo]; exact Nat.mod_lt _ (by omega)
          obtain ⟨p, hp⟩ : ∃ p, p = lo * f := ⟨_, rfl⟩
          rw [← hp] at t1 t2 t3
          have hpb : p ≤ 65536 := by
            rw [hp]
            exact Nat.mul_le_mul (show lo ≤ 256 by omega) hf1
          obtain ⟨r, hr⟩ : ∃ r, r = (cr + p) % b := ⟨_, rfl⟩
          obtain ⟨u, hu⟩ : ∃ u, u = (cr + p) / b := ⟨_, rfl⟩
          rw [← hr] at t1
          rw [← hu] at t2 t3
          rw [← t1] at hdN
          have hrb : r < b := by rw [hr]; exact Nat.mod_lt _ (by omega)
          have hcell2 : wr.cell? ⟨g, m, none⟩ = some (.int .u8 (lo : Int)) := by rw [hcell]; unfold bv; rw [hdn]
          have hset := hown2.set m (digN b N m)
          rw [mixL_set hmk] at hset
          have hbvr : bv (digN b N m) = .int .u8 (r : Int) := by unfold bv; rw [hdN]
          rw [hbvr] at hset
          have e1 : (lo : Int) * (f : Int) = (p : Int) := by rw [hp]; simp
          have e2 : ((cr : Int) + (p : Int)) % (b : Int) = (r : Int) := by rw [hr]; simp
          have e3 : ((cr : Int) + (p : Int)) / (b : Int) = (u : Int) := by rw [hu]; simp
          have e4 : ¬ ((b : Int) = 0) := by omega
          have hbs := hbel2.setCell (p := ⟨g, m, none⟩) hg1 (.int .u8 (r : Int))
          have HSET := Lib.hid hset
          have HT2 := Lib.hid t2
          have HBS := Lib.hid hbs
          clear hset t2 hbs hp hr hu t1 hdn hdN hbvr hcell heq hlo
          go_wp2
          exact ⟨⟨m + 1, u, by omega, by go_num, congrArg (Value.int .i64) e3, t3, HT2, HSET.out, HBS.out⟩, by simp [intOf]; omega⟩
        · obtain rfl : m = k := by omega
          have hN0 : N / b ^ m = cr := by
            have h := heq.out
            rw [hasc.out.1, Nat.zero_mul, Nat.add_zero] at h
            exact h
          have hNj : ∀ j, j < m → N / b ^ j ≠ 0 := fun j hj h0 => by
            have h1 := hasc.out.2 j hj
            have h2 : M ≤ N := by
              rw [HNN.out]
              have := Nat.mul_le_mul_left M (show 1 ≤ f by omega)
              omega
            have h3 := Nat.div_le_div_right (c := b ^ j) h2
            rw [h0] at h3
            exact h1 (Nat.eq_zero_of_le_zero h3)
          have hNlt : N < 2 ^ (8 * ds.length) := by
            have h1 := valF_lt hf1 (by omega) (ds.take (i + 1)) (fun d hd => HDS.out d (List.mem_of_mem_take hd))
            rw [HNX.out] at h1
            refine Nat.lt_of_lt_of_le h1 (Nat.pow_le_pow_right (by omega) ?_)
            rw [List.length_take]
            omega
          have hcr0 : cr ≤ 256 := by omega
          rw [mixL_all] at hown2
          have HN0 := Lib.hid hN0
          have HNJ := Lib.hid hNj
          have HNL := Lib.hid hNlt
          clear heq hN0 hNj hNlt
          go_wp2_with fail
          go_loopw [10, 7] (fun cc vv wx => ∃ m cr : Nat, cc = .int .i64 cr ∧ cr ≤ 256 ∧ Hid (N / b ^ m = cr ∧ ∀ j, j < m → N / b ^ j ≠ 0) ∧ OwnB wx w.heap.size vv (digitsL b N m) ∧ Below w.heap.size w wx) (fun cc _ _ => (intOf cc).toNat)
          case atStart => exact ⟨m, cr, rfl, hcr0, Lib.hid ⟨HN0.out, HNJ.out⟩, hown2, hbel2⟩
          case round =>
            obtain ⟨m, cr, rfl, hcr0, hm, hown3, hbel3⟩ := hrel
            by_cases hpos : 0 < cr
            · have hmb : m ≤ 480000 := by
                have := digits_short hb0 HNL.out hm.out.2
                omega
              obtain ⟨r, hr⟩ : ∃ r, r = cr % b := ⟨_, rfl⟩
              obtain ⟨u, hu⟩ : ∃ u, u = cr / b := ⟨_, rfl⟩
              have hrb : r < b := by rw [hr]; exact Nat.mod_lt _ (by omega)
              have hucr : u < cr := by rw [hu]; exact Nat.div_lt_self hpos hb0
              have e2 : (cr : Int) % (b : Int) = (r : Int) := by rw [hr]; simp
              have e3 : (cr : Int) / (b : Int) = (u : Int) := by rw [hu]; simp
              have e4 : ¬ ((b : Int) = 0) := by omega
              have hdN : digN b N m = b8 (r : Int) := by unfold digN; rw [hm.out.1, ← hr]
              have hnx : N / b ^ (m + 1) = u := by rw [div_next, hm.out.1, hu]
              have hsn : digitsL b N (m + 1) = digitsL b N m ++ [b8 (r : Int)] := by rw [digitsL_succ, hdN]
              have hnj : ∀ j, j < m + 1 → N / b ^ j ≠ 0 := fun j hj => by
                by_cases hjm : j < m
                · exact hm.out.2 j hjm
                · have : j = m := by omega
                  rw [this, hm.out.1]; omega
              have hmade : Byt (wr.alloc (.cells #[.int .u8 (r : Int)] 5)) (wr.heap.size + 1) (.slice (some ⟨wr.heap.size, 0, none⟩) 1 1) [b8 (r : Int)] :=
                Byt.made wr _ [_] [b8 (r : Int)] (by rw [List.map_cons, List.map_nil, bv_b8_of (by omega) (by omega)]) (by unfold maxLen; simp)
              obtain ⟨Av3, cv3, hv3⟩ := hown3.form
              subst hv3
              have hbs3 := hbel3.size
              have hlen3 : (digitsL b N m).length ≤ 480000 := by rw [digitsL_length]; exact hmb
              have hoa : (wr.alloc (.cells #[.int .u8 (r : Int)] 5)).ownsRow w.heap.size 5 1 (.slice Av3 (digitsL b N m).length cv3) (digitsL b N m).length ((digitsL b N m).map bv) := World.ownsRow.alloc hown3 _
              have HOA := Lib.hid hoa
              have HNXX := Lib.hid (And.intro hnx hnj)
              have HSN := Lib.hid hsn
              clear hr hu hdN hnx hsn hnj hoa hm
              go_wp2_with (at_builtin; refine wpList_append_bytes rfl (.tmp 50) (.tmp 55) 23 rfl w.heap.size 5 i0 slice_u8 hi hz0 hz1 hz2 _ (digitsL b N m).length ((digitsL b N m).map bv) rfl HOA.out (wr.heap.size + 1) _ [b8 (r : Int)] rfl hmade (by simp; omega) (by simp; omega) ?_; intro v1 w1 hown1 hg1 hat1)
              have hb1' : Below w.heap.size w w1 := (hbel3.alloc hbs3 _).grown hg1 (by simp; omega) (fun j hj => (HOA.out.lt j hj).1)
              refine ⟨⟨m + 1, u, rfl, by omega, HNXX, ?_, hb1'⟩, by simp [intOf]; omega⟩
              rw [HSN.out]
              unfold OwnB
              rw [List.length_append, List.map_append]
              exact hown1
            · obtain rfl : cr = 0 := by omega
              go_wp2
              exact ⟨⟨i + 1, m, by omega, by go_num, by rw [HNX.out]; exact hown3, Lib.hid (by rw [HNX.out]; exact hm.out), hbel3⟩, by simp [intOf]; omega⟩
    · have hie : ds.take i = ds := List.take_of_length_le (by omega)
      rw [hie] at hasc hown
      have HO := Lib.hid hown
      clear hie hown
      go_wp2
      refine bodyPost_ret (results_tmp rfl _ _ _) rfl ?_
      exact ⟨_, _, rfl, ⟨k, rfl, hasc.out.1, hasc.out.2⟩, HO.out, hbel⟩
end Go.Proofs.YtgiljhdjknglpaaDoor

/-
  slices.Backward over bytes: the library's iterator hands out each index with its byte, the last one first, to every loop body that keeps what lay ahead of it. Conditions: none.
-/
namespace Go.Proofs.YtgiljhdjknglpaaDoor
open Go.RowKit Go.Shelf

attribute [local go_sem] Oper.semAt_some

/-- What has come when k rounds are over: f 0, .., f (k - 1). -/
def upto {α : Type} (f : Nat → α) (k : Nat) : List α := (List.range k).map f
theorem upto_succ {α : Type} (f : Nat → α) (k : Nat) : upto f (k + 1) = upto f k ++ [f k] := by simp [upto, List.range_succ]
/-- The blocks of S lie as they lay. -/
def Holds (S : Nat → Prop) (A B : World) : Prop := ∀ k, S k → B.heap[k]? = A.heap[k]?
theorem Holds.refl (S : Nat → Prop) (A : World) : Holds S A A := fun _ _ => rfl
theorem Holds.trans {S : Nat → Prop} {A B C : World} (h : Holds S A B) (k : Holds S B C) : Holds S A C := fun i hi => (k i hi).trans (h i hi)
theorem Holds.cell {S : Nat → Prop} {A B : World} (h : Holds S A B) {p : Addr} (hp : S p.block) : B.cell? p = A.cell? p := World.cell?_of_block (w := A) (h p.block hp)
theorem Holds.of_below {S : Nat → Prop} {n : Nat} {A B : World} (h : Below n A B) (hS : ∀ k, S k → k < n) : Holds S A B := fun k hk => h.block k (hS k hk)
theorem Holds.setCell {S : Nat → Prop} {A B : World} (h : Holds S A B) {p : Addr} (hp : ¬ S p.block) (u : Value) : Holds S A (B.setCell p u) :=
  fun k hk => (Below.heap_setCell _ _ _ _ (by rintro rfl; exact hp hk)).trans (h k hk)
theorem Holds.putObj {S : Nat → Prop} (W : World) (l : Nat) (o : Obj) (hl : ¬ S l) : Holds S W (W.putObj l o) := fun k hk => by
  have hne : l ≠ k := by rintro rfl; exact hl hk
  simp [World.putObj, hne]
theorem upto_length {α : Type} (f : Nat → α) (k : Nat) : (upto f k).length = k := by simp [upto]

/-- The j-th that comes, of bytes from the end on. -/
def fromEnd (bs : List UInt8) (j : Nat) : Nat × UInt8 := (bs.length - 1 - j, bs[bs.length - 1 - j]?.getD 0)

set_option maxRecDepth 100000 in
set_option maxHeartbeats 2000000 in
theorem backw1_in (F : Fence) (n : Nat) (hf : F.fn 68) (hro : F.round = none) (hn : 1 ≤ n) (l Bs B : Nat) (S : Nat → Prop) (v : Value) (bs : List UInt8) (J Jx : List (Nat × UInt8) → World → Prop)
    (hY : ∀ pre x W, J pre W → pre.length < bs.length → YieldAt F (n - 1) Tryd.prog l #[.int .i64 (x.1 : Int), .int .u8 (x.2.toNat : Int)] W fun e W' =>
      (e = .returned (.bool true) ∧ J (pre ++ [x]) W' ∧ Holds S W W') ∨ (e = .returned (.bool false) ∧ Jx (pre ++ [x]) W'))
    (W : World) (hBs : W.cell? ⟨Bs, 0, none⟩ = some v) (hBn : S Bs) (hv : Byt W B v bs) (hSv : ∀ k, v.ownBlock = some k → S k) (h0 : J [] W) :
    CallsIn F n Tryd.prog 68 #[.func (.yield l) #[] #[], .pointer (some ⟨Bs, 0, none⟩)] W fun e W' => (∃ v, e = .returned v) ∧
      ((∃ ys, ys = upto (fromEnd bs) bs.length ∧ J ys W') ∨ (∃ pre, (∃ k, k ≤ bs.length ∧ pre = upto (fromEnd bs) k) ∧ Jx pre W')) := by
  have hlen := hv.len
  unfold maxLen at hlen
  obtain ⟨A, c, rfl, _, _, _, hx⟩ := hv
  have HX := Lib.hid hx
  clear hx
  refine callsIn_of_wp Tryd.func68 rfl hf ?_ hro
  simp only [Tryd.ntmps68, List.size_toArray, List.length_cons, List.length_nil, Nat.reduceAdd, Nat.reduceSub, Array.replicate_succ, Array.replicate_zero, List.push_toArray, List.append_toArray, List.nil_append, List.cons_append]
  gi_wp2
  gi_loopw [3] (fun i wr => ∃ k : Nat, k ≤ bs.length ∧ i = .int .i64 ((bs.length : Int) - 1 - k) ∧ J (upto (fromEnd bs) k) wr ∧ Holds S W wr)
    (fun i _ => (intOf i + 1).toNat)
  case atStart => exact ⟨0, Nat.zero_le _, by simp, h0, Holds.refl _ _⟩
  case round =>
    obtain ⟨k, hk, rfl, hJs, hnx⟩ := hrel
    have hbx : wr.cell? ⟨Bs, 0, none⟩ = some (.slice A bs.length c) := (hnx.cell (p := ⟨Bs, 0, none⟩) hBn).trans hBs
    by_cases hlt : k < bs.length
    · obtain ⟨m, hm⟩ : ∃ m : Nat, m = bs.length - 1 - k := ⟨_, rfl⟩
      have ei : (bs.length : Int) - 1 - (k : Int) = (m : Int) := by omega
      have hml : m < bs.length := by omega
      obtain ⟨b, o, rfl, hb, hc⟩ := HX.out (by rintro rfl; simp at hlt)
      have hcell : wr.cell? ⟨b, o + m, none⟩ = some (bv bs[m]) := (hnx.cell (p := ⟨b, o + m, none⟩) (hSv b rfl)).trans (hc m _ (List.getElem?_eq_getElem hml))
      have hfe : fromEnd bs k = (m, bs[m]) := by unfold fromEnd; rw [← hm, List.getElem?_eq_getElem hml]; rfl
      obtain ⟨fn, tmps, assign, body, hy, hR⟩ := hY _ (m, bs[m]) wr hJs (by rw [upto_length]; exact hlt)
      obtain ⟨z, hz⟩ : ∃ z, z = bs[m] := ⟨_, rfl⟩
      rw [← hz] at hcell hfe hy hR
      dsimp only at hy
      unfold bv at hcell
      have HFE := Lib.hid hfe
      have HM := Lib.hid hm
      have EI := Lib.hid ei
      rw [ei]
      clear hz hfe hm hc ei
      gi_wp2
      refine hR.mono ?_
      rintro e W3 (⟨rfl, hJ3, hk3⟩ | ⟨rfl, hJx3⟩)
      · gi_wp2
        go_roundw
        case rel => exact ⟨k + 1, by omega, by congr 1; have := EI.out; omega, by rw [upto_succ, HFE.out]; exact hJ3, hnx.trans hk3⟩
        case measure => simp [intOf]
      · gi_wp2
        refine bodyPost_ret (results_none rfl _ _ _) rfl ?_
        exact ⟨⟨_, rfl⟩, .inr ⟨_, ⟨k + 1, by omega, by rw [upto_succ, HFE.out]⟩, hJx3⟩⟩
    · obtain rfl : k = bs.length := by omega
      gi_wp2
      go_end0
      exact ⟨⟨_, rfl⟩, .inl ⟨_, rfl, hJs⟩⟩

set_option maxHeartbeats 1000000 in
/-- slices.Backward(s): the slice value is boxed; the function value captures the box. -/
theorem backw_in (F : Fence) (n : Nat) (hf : F.fn 56) (hro : F.round = none) (a : Option Addr) (len cap : Nat) (w : World) :
    CallsIn F n Tryd.prog 56 #[.slice a len cap] w fun e w' => e = .returned (.func (.func 68) #[] #[.pointer (some ⟨w.heap.size, 0, none⟩)]) ∧ w' = w.alloc (.cells #[.slice a len cap] 23) := by
  refine callsIn_of_wp Tryd.func56 rfl hf ?_ hro
  simp only [Tryd.ntmps56, List.size_toArray, List.length_cons, List.length_nil, Nat.reduceAdd, Nat.reduceSub, Array.replicate_succ, Array.replicate_zero, List.push_toArray, List.append_toArray, List.nil_append, List.cons_append]
  gi_wp2
  go_ret
  exact ⟨rfl, rfl⟩

/-- What slices.Backward hands back: all bytes from the end on; or the first k of them. -/
theorem backw_stops (F : Fence) (n : Nat) (hf : F.fn 68) (hro : F.round = none) (hn : 1 ≤ n) (Bs B : Nat) (S : Nat → Prop) (v : Value) (bs : List UInt8) (w : World) (hBs : S Bs) (hBw : Bs < w.heap.size) (hB : B ≤ w.heap.size) (hSv : ∀ k, v.ownBlock = some k → S k)
    (hc : w.cell? ⟨Bs, 0, none⟩ = some v) (hv : Byt w B v bs) :
    SeqStopsK F n Tryd.prog 68 #[.pointer (some ⟨Bs, 0, none⟩)] (fun x : Nat × UInt8 => #[Value.int .i64 (x.1 : Int), Value.int .u8 (x.2.toNat : Int)]) (Holds S) (fun ys => ys = upto (fromEnd bs) bs.length) (fun pre => ∃ k, k ≤ bs.length ∧ pre = upto (fromEnd bs) k) bs.length w := fun l J Jx W hW _ _ hY h0 => by
  have hc' := (hW.cell (p := ⟨Bs, 0, none⟩) hBw).trans hc
  exact backw1_in F n hf hro hn l Bs B S v bs J Jx hY W hc' hBs (hv.keep fun b o hb => hW.cell (p := ⟨b, o, none⟩) (by show b < _; omega)) hSv h0
end Go.Proofs.YtgiljhdjknglpaaDoor
