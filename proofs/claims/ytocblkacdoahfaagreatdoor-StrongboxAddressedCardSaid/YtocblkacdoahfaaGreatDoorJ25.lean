/-
  Texts joined: Asc, Zeros, Reb. Conditions: those of each.
-/
import Derived.Test.YtocblkacdoahfaaGreatDoorJ24
import Derived.Test.YtocblkacdoahfaaGreatDoorJ20
import Derived.Test.YtocblkacdoahfaaGreatDoorJ6
/-
  text.ascending: the same number in digits of another base. Conditions: the bases are from 2 to 256; sizes within the reach.
-/
namespace Go.Proofs.YtocblkacdoahfaaGreatDoor
open Go.RowKit

/-- The first m digits are those of N, the others still those of M. -/
def mixL (b N M k m : Nat) : List UInt8 := digitsL b N m ++ (digitsL b M k).drop m
theorem mixL_length {b N M k m : Nat} (h : m ≤ k) : (mixL b N M k m).length = k := by simp [mixL, digitsL_length]; omega
theorem mixL_at {b N M k m : Nat} (h : m < k) : (mixL b N M k m)[m]? = some (digN b M m) := by
  unfold mixL
  rw [List.getElem?_append_right (by rw [digitsL_length]; omega), digitsL_length, Nat.sub_self, List.getElem?_drop, Nat.add_zero, digitsL_at h]
theorem mixL_set {b N M k m : Nat} (h : m < k) : (mixL b N M k m).set m (digN b N m) = mixL b N M k (m + 1) := by
  unfold mixL
  rw [List.set_append_right _ _ (by rw [digitsL_length]; omega), digitsL_length, Nat.sub_self]
  have hd : (digitsL b M k).drop m = digN b M m :: (digitsL b M k).drop (m + 1) := by
    rw [List.drop_eq_getElem_cons (by rw [digitsL_length]; exact h)]
    have := digitsL_at (b := b) (N := M) h
    rw [List.getElem?_eq_some_iff] at this
    rw [this.2]
  rw [hd, List.set_cons_zero, digitsL_succ]
  simp
theorem mixL_zero (b N M k : Nat) : mixL b N M k 0 = digitsL b M k := by simp [mixL, digitsL]
theorem mixL_all (b N M k : Nat) : mixL b N M k k = digitsL b N k := by
  unfold mixL
  rw [List.drop_eq_nil_of_le (by rw [digitsL_length]; exact Nat.le_refl _), List.append_nil]

set_option maxRecDepth 100000 in
set_option maxHeartbeats 3200000 in
theorem asc_any (B : Nat) (x : Value) (ds : List UInt8) (f b : Nat) (w : World) (hx : Byt w B x ds) (hB : B ≤ w.heap.size) (hl : ds.length ≤ 60000) (hf0 : 2 ≤ f) (hf1 : f ≤ 256) (hb0 : 2 ≤ b) (hb1 : b ≤ 256) (hds : ∀ d ∈ ds, d.toNat < f) :
    Calls Tryz.prog 104 #[x, .int .i64 f, .int .i64 b] w fun e w' => ∃ v out, e = .returned v ∧ AscOf b (valF f ds) out ∧ OwnB w' w.heap.size v out ∧ Below w.heap.size w w' := by
  obtain ⟨i0, hi, hz0, hz1, hz2⟩ := info_parts info_u8
  obtain ⟨A, c, hxf⟩ := hx.form
  subst hxf
  have hX := Lib.hid hx
  have HDS := Lib.hid hds
  clear hx hds
  go_enter Tryz.func104, Tryz.ntmps104
  go_wp2_with fail
  go_loopw [15, 7] (fun j v wr => ∃ i k : Nat, i ≤ ds.length ∧ j = .int .i64 i ∧ OwnB wr w.heap.size v (digitsL b (valF f (ds.take i)) k) ∧ Hid (valF f (ds.take i) / b ^ k = 0 ∧ ∀ j, j < k → valF f (ds.take i) / b ^ j ≠ 0) ∧ Below w.heap.size w wr) (fun j _ _ => ds.length - (intOf j).toNat)
  case atStart => exact ⟨0, 0, Nat.zero_le _, rfl, OwnB.nil _ _, Lib.hid ⟨by simp [valF], fun j h => by omega⟩, Below.refl _ _⟩
  case round =>
    obtain ⟨i, k, hi2, rfl, hown, hasc, hbel⟩ := hrel
    by_cases hlt : i < ds.length
    · obtain ⟨A', c', e0, _, _, _, h4⟩ := hX.out
      injection e0 with e1 e2 e3
      subst e1 e3
      obtain ⟨bb, o, rfl, hbb, hbc⟩ := h4 (by rintro rfl; simp at hlt)
      have hci := hbc i _ (List.getElem?_eq_getElem hlt)
      obtain ⟨q, hq⟩ : ∃ q, q = ds[i] := ⟨_, rfl⟩
      rw [← hq] at hci
      have hbi : wr.cell? ⟨bb, o + i, none⟩ = some (.int .u8 (q.toNat : Int)) := (hbel.cell (p := ⟨bb, _, none⟩) (by show bb < _; omega)).trans hci
      have hqi : ds[i]? = some q := by rw [hq]; exact List.getElem?_eq_getElem hlt
      have hqf : q.toNat < f := HDS.out q (List.mem_of_getElem? hqi)
      obtain ⟨M, hM⟩ : ∃ M, M = valF f (ds.take i) := ⟨_, rfl⟩
      obtain ⟨N, hN⟩ : ∃ N, N = M * f + q.toNat := ⟨_, rfl⟩
      have hnext : valF f (ds.take (i + 1)) = N := by rw [valF_snoc f hqi, ← hM, ← hN]
      rw [← hM] at hown hasc
      have hk8 : k ≤ 480000 := by
        have h1 := valF_lt hf1 (by omega) (ds.take i) (fun d hd => HDS.out d (List.mem_of_mem_take hd))
        rw [← hM] at h1
        have h2 := (AscOf.short (b := b) ⟨k, rfl, hasc.out.1, hasc.out.2⟩ hb0 h1)
        rw [digitsL_length, List.length_take] at h2
        omega
      have HNX := Lib.hid hnext
      have HNN := Lib.hid hN
      clear hbc h4 hq hqi hci hM hnext hN
      obtain ⟨Av, cv, hv⟩ := hown.form
      subst hv
      rw [digitsL_length] at hown ⊢
      have hq256 := q.toNat_lt
      go_wp2_with fail
      go_loopw [23, 10] (fun j2 cc wx => ∃ m cr : Nat, m ≤ k ∧ j2 = .int .i64 m ∧ cc = .int .i64 cr ∧ cr < f ∧ Hid (N / b ^ m = cr + M / b ^ m * f) ∧ OwnB wx w.heap.size (.slice Av k cv) (mixL b N M k m) ∧ Below w.heap.size w wx) (fun j2 _ _ => k - (intOf j2).toNat)
      case atStart => exact ⟨0, q.toNat, Nat.zero_le _, rfl, rfl, hqf, Lib.hid (by rw [HNN.out]; simp; omega), by rw [mixL_zero]; exact hown, hbel⟩
      case round =>
        obtain ⟨m, cr, hm, rfl, rfl, hcr, heq, hown2, hbel2⟩ := hrel
        by_cases hmk : m < k
        · obtain ⟨g, c2, e, hg1, hg2, hg3⟩ := hown2.block (by rw [mixL_length hm]; omega)
          injection e with e1 e2 e3
          subst e1 e3
          clear e2
          rw [mixL_length hm] at hg3
          have hcell := hown2.cell (mixL_at (b := b) (N := N) (M := M) hmk)
          have hfree := hown2.free m
          obtain ⟨t1, t2, t3⟩ := carry_next hb0 (by omega) hcr heq.out
          have hdn := digN_nat (b := b) (N := M) (j := m) (by omega) hb1
          have hdN := digN_nat (b := b) (N := N) (j := m) (by omega) hb1
          obtain ⟨lo, hlo⟩ : ∃ lo, lo = M / b ^ m % b := ⟨_, rfl⟩
          rw [← hlo] at t1 t2 t3 hdn
          have hlob : lo < b := by rw [hlo]; exact Nat.mod_lt _ (by omega)
          obtain ⟨p, hp⟩ : ∃ p, p = lo * f := ⟨_, rfl⟩
          rw [← hp] at t1 t2 t3
          have hpb : p ≤ 65536 := by
            rw [hp]
            exact Nat.mul_le_mul (show lo ≤ 256 by omega) hf1
          obtain ⟨r, hr⟩ : ∃ r, r = (cr + p) % b := ⟨_, rfl⟩
          obtain ⟨u, hu⟩ : ∃ u, u = (cr + p) / b := ⟨_, rfl⟩
          rw [← hr] at t1
          rw [← hu] at t2 t3
          rw [← t1] at hdN
          have hrb : r < b := by rw [hr]; exact Nat.mod_lt _ (by omega)
          have hcell2 : wr.cell? ⟨g, m, none⟩ = some (.int .u8 (lo : Int)) := by rw [hcell]; unfold bv; rw [hdn]
          have hset := hown2.set m (digN b N m)
          rw [mixL_set hmk] at hset
          have hbvr : bv (digN b N m) = .int .u8 (r : Int) := by unfold bv; rw [hdN]
          rw [hbvr] at hset
          have e1 : (lo : Int) * (f : Int) = (p : Int) := by rw [hp]; simp
          have e2 : ((cr : Int) + (p : Int)) % (b : Int) = (r : Int) := by rw [hr]; simp
          have e3 : ((cr : Int) + (p : Int)) / (b : Int) = (u : Int) := by rw [hu]; simp
          have e4 : ¬ ((b : Int) = 0) := by omega
          have hbs := hbel2.setCell (p := ⟨g, m, none⟩) hg1 (.int .u8 (r : Int))
          have HSET := Lib.hid hset
          have HT2 := Lib.hid t2
          have HBS := Lib.hid hbs
          clear hset t2 hbs hp hr hu t1 hdn hdN hbvr hcell heq hlo
          go_wp2
          exact ⟨⟨m + 1, u, by omega, by go_num, congrArg (Value.int .i64) e3, t3, HT2, HSET.out, HBS.out⟩, by simp [intOf]; omega⟩
        · obtain rfl : m = k := by omega
          have hN0 : N / b ^ m = cr := by
            have h := heq.out
            rw [hasc.out.1, Nat.zero_mul, Nat.add_zero] at h
            exact h
          have hNj : ∀ j, j < m → N / b ^ j ≠ 0 := fun j hj h0 => by
            have h1 := hasc.out.2 j hj
            have h2 : M ≤ N := by
              rw [HNN.out]
              have := Nat.mul_le_mul_left M (show 1 ≤ f by omega)
              omega
            have h3 := Nat.div_le_div_right (c := b ^ j) h2
            rw [h0] at h3
            exact h1 (Nat.eq_zero_of_le_zero h3)
          have hNlt : N < 2 ^ (8 * ds.length) := by
            have h1 := valF_lt hf1 (by omega) (ds.take (i + 1)) (fun d hd => HDS.out d (List.mem_of_mem_take hd))
            rw [HNX.out] at h1
            refine Nat.lt_of_lt_of_le h1 (Nat.pow_le_pow_right (by omega) ?_)
            rw [List.length_take]
            omega
          have hcr0 : cr ≤ 256 := by omega
          rw [mixL_all] at hown2
          have HN0 := Lib.hid hN0
          have HNJ := Lib.hid hNj
          have HNL := Lib.hid hNlt
          clear heq hN0 hNj hNlt
          go_wp2_with fail
          go_loopw [10, 7] (fun cc vv wx => ∃ m cr : Nat, cc = .int .i64 cr ∧ cr ≤ 256 ∧ Hid (N / b ^ m = cr ∧ ∀ j, j < m → N / b ^ j ≠ 0) ∧ OwnB wx w.heap.size vv (digitsL b N m) ∧ Below w.heap.size w wx) (fun cc _ _ => (intOf cc).toNat)
          case atStart => exact ⟨m, cr, rfl, hcr0, Lib.hid ⟨HN0.out, HNJ.out⟩, hown2, hbel2⟩
          case round =>
            obtain ⟨m, cr, rfl, hcr0, hm, hown3, hbel3⟩ := hrel
            by_cases hpos : 0 < cr
            · have hmb : m ≤ 480000 := by
                have := digits_short hb0 HNL.out hm.out.2
                omega
              obtain ⟨r, hr⟩ : ∃ r, r = cr % b := ⟨_, rfl⟩
              obtain ⟨u, hu⟩ : ∃ u, u = cr / b := ⟨_, rfl⟩
              have hrb : r < b := by rw [hr]; exact Nat.mod_lt _ (by omega)
              have hucr : u < cr := by rw [hu]; exact Nat.div_lt_self hpos hb0
              have e2 : (cr : Int) % (b : Int) = (r : Int) := by rw [hr]; simp
              have e3 : (cr : Int) / (b : Int) = (u : Int) := by rw [hu]; simp
              have e4 : ¬ ((b : Int) = 0) := by omega
              have hdN : digN b N m = b8 (r : Int) := by unfold digN; rw [hm.out.1, ← hr]
              have hnx : N / b ^ (m + 1) = u := by rw [div_next, hm.out.1, hu]
              have hsn : digitsL b N (m + 1) = digitsL b N m ++ [b8 (r : Int)] := by rw [digitsL_succ, hdN]
              have hnj : ∀ j, j < m + 1 → N / b ^ j ≠ 0 := fun j hj => by
                by_cases hjm : j < m
                · exact hm.out.2 j hjm
                · have : j = m := by omega
                  rw [this, hm.out.1]; omega
              have hmade : Byt (wr.alloc (.cells #[.int .u8 (r : Int)] 5)) (wr.heap.size + 1) (.slice (some ⟨wr.heap.size, 0, none⟩) 1 1) [b8 (r : Int)] :=
                Byt.made wr _ [_] [b8 (r : Int)] (by rw [List.map_cons, List.map_nil, bv_b8_of (by omega) (by omega)]) (by unfold maxLen; simp)
              obtain ⟨Av3, cv3, hv3⟩ := hown3.form
              subst hv3
              have hbs3 := hbel3.size
              have hlen3 : (digitsL b N m).length ≤ 480000 := by rw [digitsL_length]; exact hmb
              have hoa : (wr.alloc (.cells #[.int .u8 (r : Int)] 5)).ownsRow w.heap.size 5 1 (.slice Av3 (digitsL b N m).length cv3) (digitsL b N m).length ((digitsL b N m).map bv) := World.ownsRow.alloc hown3 _
              have HOA := Lib.hid hoa
              have HNXX := Lib.hid (And.intro hnx hnj)
              have HSN := Lib.hid hsn
              clear hr hu hdN hnx hsn hnj hoa hm
              go_wp2_with (at_builtin; refine wpList_append_bytes rfl (.tmp 50) (.tmp 55) 23 rfl w.heap.size 5 i0 slice_u8 hi hz0 hz1 hz2 _ (digitsL b N m).length ((digitsL b N m).map bv) rfl HOA.out (wr.heap.size + 1) _ [b8 (r : Int)] rfl hmade (by simp; omega) (by simp; omega) ?_; intro v1 w1 hown1 hg1 hat1)
              have hb1' : Below w.heap.size w w1 := (hbel3.alloc hbs3 _).grown hg1 (by simp; omega) (fun j hj => (HOA.out.lt j hj).1)
              refine ⟨⟨m + 1, u, rfl, by omega, HNXX, ?_, hb1'⟩, by simp [intOf]; omega⟩
              rw [HSN.out]
              unfold OwnB
              rw [List.length_append, List.map_append]
              exact hown1
            · obtain rfl : cr = 0 := by omega
              go_wp2
              exact ⟨⟨i + 1, m, by omega, by go_num, by rw [HNX.out]; exact hown3, Lib.hid (by rw [HNX.out]; exact hm.out), hbel3⟩, by simp [intOf]; omega⟩
    · have hie : ds.take i = ds := List.take_of_length_le (by omega)
      rw [hie] at hasc hown
      have HO := Lib.hid hown
      clear hie hown
      go_wp2
      refine bodyPost_ret (results_tmp rfl _ _ _) rfl ?_
      exact ⟨_, _, rfl, ⟨k, rfl, hasc.out.1, hasc.out.2⟩, HO.out, hbel⟩
end Go.Proofs.YtocblkacdoahfaaGreatDoor

/-
  text.leadingZeros. Conditions: sizes within the reach.
-/
namespace Go.Proofs.YtocblkacdoahfaaGreatDoor
open Go.RowKit

def zerosN (xs : List UInt8) : Nat := (xs.takeWhile (· == 0)).length

theorem zerosN_all {xs : List UInt8} (h : ∀ (i : Nat) (c : UInt8), xs[i]? = some c → c = 0) : zerosN xs = xs.length := by
  unfold zerosN
  have hall : ∀ l : List UInt8, (∀ d ∈ l, d = 0) → l.takeWhile (· == 0) = l := by
    intro l
    induction l with
    | nil => intro _; rfl
    | cons a l ih =>
      intro hl
      rw [List.takeWhile_cons_of_pos (by simp [hl a (List.mem_cons_self)]), ih fun d hd => hl d (List.mem_cons_of_mem _ hd)]
  rw [hall xs fun d hd => by obtain ⟨i, hi⟩ := List.mem_iff_getElem?.1 hd; exact h i d hi]
theorem zerosN_at {xs : List UInt8} {i : Nat} {c : UInt8} (hall : ∀ (j : Nat) (d : UInt8), j < i → xs[j]? = some d → d = 0) (hi : xs[i]? = some c) (hc : c ≠ 0) : zerosN xs = i := by
  have hlt := (List.getElem?_eq_some_iff.1 hi).1
  have hx : xs = xs.take i ++ c :: xs.drop (i + 1) := by
    have h := List.getElem?_eq_some_iff.1 hi
    conv => lhs; rw [← List.take_append_drop i xs, List.drop_eq_getElem_cons hlt, h.2]
  have ht : ∀ d ∈ xs.take i, (d == 0) = true := by
    intro d hd
    obtain ⟨j, hj⟩ := List.mem_iff_getElem?.1 hd
    rw [List.getElem?_take] at hj
    split at hj
    · next h => simp [hall j d h hj]
    · cases hj
  unfold zerosN
  rw [hx, List.takeWhile_append_of_pos ht, List.takeWhile_cons_of_neg (by simpa using hc)]
  simp
  omega

set_option maxRecDepth 100000 in
set_option maxHeartbeats 1600000 in
theorem zeros_any (B : Nat) (x : Value) (xs : List UInt8) (w : World) (hx : Byt w B x xs) (hl : xs.length ≤ 60000) :
    Calls Tryz.prog 102 #[x] w fun e w' => e = .returned (.int .i64 (zerosN xs)) ∧ w = w' := by
  obtain ⟨A, c, hxf⟩ := hx.form
  subst hxf
  have hX := Lib.hid hx
  clear hx
  go_enter Tryz.func102, Tryz.ntmps102
  go_wp2_with fail
  go_loopw [7] (fun j wr => ∃ i : Nat, i ≤ xs.length ∧ j = .int .i64 i ∧ wr = w ∧ Hid (∀ (k : Nat) (d : UInt8), k < i → xs[k]? = some d → d = 0)) (fun j _ => xs.length - (intOf j).toNat)
  case atStart => exact ⟨0, Nat.zero_le _, rfl, rfl, Lib.hid (fun k d h => by omega)⟩
  case round =>
    obtain ⟨i, hi, rfl, rfl, hall⟩ := hrel
    by_cases hlt : i < xs.length
    · obtain ⟨A', c', e0, _, _, _, h4⟩ := hX.out
      injection e0 with e1 e2 e3
      subst e1 e3
      obtain ⟨b, o, rfl, hb, hbc⟩ := h4 (by rintro rfl; simp at hlt)
      have hci := hbc i _ (List.getElem?_eq_getElem hlt)
      obtain ⟨q, hq⟩ : ∃ q, q = xs[i] := ⟨_, rfl⟩
      rw [← hq] at hci
      have hbi : wr.cell? ⟨b, o + i, none⟩ = some (.int .u8 (q.toNat : Int)) := hci
      have hqi : xs[i]? = some q := by rw [hq]; exact List.getElem?_eq_getElem hlt
      have HQ := Lib.hid hqi
      clear hci hbc h4 hq hqi
      by_cases hz : q = 0
      · have hb0 : ((q.toNat : Int) != 0) = false := by rw [hz]; rfl
        go_wp2
        refine ⟨⟨i + 1, by omega, by go_num, trivial, Lib.hid (fun k d hk hd => ?_)⟩, by simp [intOf]; omega⟩
        by_cases hki : k < i
        · exact hall.out k d hki hd
        · have : k = i := by omega
          subst this
          rw [HQ.out] at hd
          injection hd with hd
          rw [← hd, hz]
      · have hb1 : ((q.toNat : Int) != 0) = true := by
          have : q.toNat ≠ 0 := fun h => hz (UInt8.toNat_inj.1 h)
          simp; omega
        have hr := zerosN_at hall.out HQ.out hz
        have HR := Lib.hid hr
        clear hr
        go_wp2
        go_ret
        exact ⟨by rw [HR.out]; rfl, rfl⟩
    · have hr : zerosN xs = xs.length := zerosN_all (fun j d hj => hall.out j d (by have := (List.getElem?_eq_some_iff.1 hj).1; omega) hj)
      have HR := Lib.hid hr
      clear hr
      go_wp2
      go_ret
      exact ⟨by rw [HR.out]; rfl, rfl⟩

end Go.Proofs.YtocblkacdoahfaaGreatDoor

/-
  text.rebase: the same number in digits of another base, behind as many zeros. Conditions: the bases are from 2 to 256; sizes within the reach.
-/
namespace Go.Proofs.YtocblkacdoahfaaGreatDoor
open Go.RowKit Go.Shelf

attribute [local go_sem] Oper.semAt_some

theorem Byt.tail {w : World} {B c : Nat} {A : Option Addr} {xs : List UInt8} (h : Byt w B (.slice A xs.length c) xs) {k : Nat} (hk : k ≤ xs.length) :
    Byt w B (.slice (if c = k then A else A.map (fun x => x.add k)) (xs.length - k) (c - k)) (xs.drop k) := by
  obtain ⟨A', c', e, h1, h2, h3, h4⟩ := h
  injection e with e1 e2 e3
  subst e1 e3
  by_cases hck : c = k
  · rw [if_pos hck]
    have hd : xs.drop k = [] := List.drop_of_length_le (by omega)
    rw [hd]
    refine ⟨A, c - k, by rw [List.length_nil]; congr 1; omega, Nat.zero_le _, by omega, fun h => ⟨rfl, by have := (h3 h).2; omega⟩, fun h => absurd rfl h⟩
  · rw [if_neg hck]
    refine ⟨_, _, by rw [List.length_drop], by rw [List.length_drop]; omega, by omega, fun h => ?_, fun hne => ?_⟩
    · cases A with
      | none => obtain ⟨rfl, hc0⟩ := h3 rfl; exact ⟨by simp, by omega⟩
      | some a => cases h
    · obtain ⟨b, o, rfl, hb, hcell⟩ := h4 (by rintro rfl; simp at hne)
      have hadd : (⟨b, o, none⟩ : Addr).add k = ⟨b, o + k, none⟩ := by
        unfold Addr.add
        split <;> simp_all
      refine ⟨b, o + k, by simp [hadd], hb, fun j u hu => ?_⟩
      rw [Nat.add_assoc]
      exact hcell _ u (by rw [← hu, List.getElem?_drop])

theorem run_tail (A : Option Addr) (n c z : Nat) (hz : z ≤ n) (W : World) :
    (Instr.slice 23 (.slice A n c) (some (.int .i64 (z : Int))) none none).run Tryz.prog W = .ok (.slice (if c = z then A else A.map (fun x => x.add z)) (n - z) (c - z)) W := by
  obtain ⟨i0, hi, hz0, hz1, hz2⟩ := info_parts info_u8
  have he : Tryz.prog.elem 23 = 5 := by kernel_rfl
  have ht : Tryz.prog.underlying 23 = some (.slice (Tryz.prog.elem 23)) := by rw [he]; exact slice_u8
  rw [run_slice_l (ht := ht) (h0 := by omega) (h1 := by omega), he]
  simp [sizeOf, typeInfo, hi, hz1, sliced, go_sem]
theorem wpListIn_append_bytes {F : Fence} {m : Nat} {P : Program} {w : World} {ops : Array Oper} {rest : List Oper} {o : Oper} {a : Act} {Q : Exit → Act → World → Prop} (hg : o.guard = none) (s x : Operand) (t : TypeId)
    (hop : o.op = .call { callee := .builtin .append, args := #[s, x], argTypes := #[t, t] })
    (base : Nat) (e : TypeId) (i : TypeInfo) (ht : P.underlying t = some (.slice e)) (hi : P.info? e = some i)
    (hz : i.zero = some (.int .u8 0)) (hsize : i.size = 1) (hby : i.bytes = 1)
    (v : Value) (n : Nat) (xs : List Value) (hs : a.eval s = v) (hown : w.ownsRow base e 1 v n xs)
    (B : Nat) (u : Value) (ys : List UInt8) (hx : a.eval x = u) (hr : Byt w B u ys) (hb : n + ys.length ≤ 140737488355328) (hbase : base ≤ w.heap.size)
    (h : ∀ v' w', w'.ownsRow base e 1 v' (n + ys.length) (xs ++ ys.map bv) → w.grownBy w' v.ownBlock → (v'.ownBlock = v.ownBlock ∨ v'.ownBlock = some w.heap.size) → wpListIn F m P ops Q rest (a.put o.dst v') w') :
    wpListIn F m P ops Q (o :: rest) a w := by
  refine wpListIn_plain hg fun K hK' => ?_
  obtain ⟨v', w', hrun, h2, h3, h4⟩ := run_append_bytes (P := P) w base t o.type e i ht hi hz hsize hby v n xs hown B u ys hr hb hbase
  unfold Oper.wpIn
  refine ⟨?_, ?_⟩
  · simp [Oper.about, hop, resolve, Target.leads, Sem.run_pure]
  · rw [Oper.semAt_plain F _ _ (by rw [hop]; intro c hc'; cases hc')]
    simp [execOp, hop, resolve, invoke, builtin, hs, hx, hrun, Result.andThen]
    exact hK' _ _ (h v' w' h2 h3 h4)

theorem ownFrom_size {β : Type} (B N : Nat) : OwnFrom B (fun (_ : β) W => N ≤ W.heap.size) := fun _ _ _ _ hs hg _ => Nat.le_trans hs hg.size
theorem zerosN_le (xs : List UInt8) : zerosN xs ≤ xs.length := by
  unfold zerosN
  exact (List.takeWhile_prefix _).length_le

/-- What has come behind the zeros. -/
def outP (z : Nat) (pre : List (Nat × UInt8)) : List UInt8 := List.replicate z 0 ++ pre.map Prod.snd
theorem outP_snoc (z : Nat) (pre : List (Nat × UInt8)) (x : Nat × UInt8) : outP z (pre ++ [x]) = outP z pre ++ [x.2] := by simp [outP]
theorem outP_length (z : Nat) (pre : List (Nat × UInt8)) : (outP z pre).length = z + pre.length := by simp [outP]
theorem outP_all (z : Nat) (bs : List UInt8) : outP z (upto (fromEnd bs) bs.length) = List.replicate z 0 ++ bs.reverse := by
  unfold outP
  congr 1
  apply List.ext_getElem
  · simp [upto]
  · intro i h1 h2
    simp only [List.length_map, upto_length] at h1
    simp only [upto, List.map_map, List.getElem_map, List.getElem_range, Function.comp, fromEnd, List.getElem_reverse]
    rw [List.getElem?_eq_getElem (by omega)]
    rfl

/-- The digits in the other base. -/
def RebOf (b f : Nat) (ds out : List UInt8) : Prop := ∃ asc, AscOf b (valF f (ds.drop (zerosN ds))) asc ∧ out = List.replicate (zerosN ds) 0 ++ asc.reverse

theorem ownsRow_zero (w : World) (n : Nat) (hn : n ≤ maxLen) : (w.alloc (.cells (zeroRow n) 5)).ownsRow w.heap.size 5 1 (.slice (some ⟨w.heap.size, 0, none⟩) n n) n ((List.replicate n (0 : UInt8)).map bv) :=
  ⟨by simp, .inr ⟨w.heap.size, n, zeroRow n, rfl, Nat.le_refl _, heap_alloc_new w _, Nat.le_refl _, hn, by simp [zeroRow], by simp [zeroRow]⟩⟩

set_option maxRecDepth 100000 in
set_option maxHeartbeats 3200000 in
theorem reb_in (B : Nat) (x : Value) (ds : List UInt8) (f b : Nat) (w : World) (hx : Byt w B x ds) (hB : B ≤ w.heap.size) (hl : ds.length ≤ 20000) (hf0 : 2 ≤ f) (hf1 : f ≤ 256) (hb0 : 2 ≤ b) (hb1 : b ≤ 256) (hds : ∀ d ∈ ds, d.toNat < f) :
    CallsIn Fence.wide 3 Tryz.prog 78 #[x, .int .i64 f, .int .i64 b] w fun e w' => ∃ v out, e = .returned v ∧ RebOf b f ds out ∧ OwnB w' w.heap.size v out ∧ Below w.heap.size w w' := by
  obtain ⟨i0, hi, hz0, hz1, hz2⟩ := info_parts info_u8
  have hz := zerosN_le ds
  have ZC := (callsIn_wide (n := 2)).2 (zeros_any B x ds w hx (by omega))
  obtain ⟨A, c, hxf⟩ := hx.form
  subst hxf
  have hcap := hx.cap
  obtain ⟨z, hzz⟩ : ∃ z, z = zerosN ds := ⟨_, rfl⟩
  rw [← hzz] at ZC hz
  have hmk := fun W => make_bytes W z (z : Int) rfl (by omega)
  have hty := hx.tail hz
  obtain ⟨W1, hW1⟩ : ∃ W1, W1 = w.alloc (.cells (zeroRow z) 5) := ⟨_, rfl⟩
  have hs1 : W1.heap.size = w.heap.size + 1 := by rw [hW1]; simp
  have hown1 := ownsRow_zero w z (by unfold maxLen; omega)
  rw [← hW1] at hown1
  have hB1 : Below w.heap.size w W1 := by rw [hW1]; exact (Below.refl _ w).alloc (Nat.le_refl _) _
  obtain ⟨ts, hts⟩ : ∃ ts, ts = ds.drop z := ⟨_, rfl⟩
  have htl : ts.length = ds.length - z := by rw [hts, List.length_drop]
  rw [← hts] at hty
  have AC := (callsIn_wide (n := 2)).2 (asc_any B _ ts f b (W1.alloc (.cells #[.slice (some ⟨w.heap.size, 0, none⟩) z z] 23)) ((hty.below (hB1.mono hB)).below ((Below.refl _ _).alloc (by omega) _)) (by simp; omega) (by omega) hf0 hf1 hb0 hb1 (fun d hd => hds d (by rw [hts] at hd; exact List.mem_of_mem_drop hd)))
  have HX := Lib.hid hx
  have HTY := Lib.hid hty
  have HZ := Lib.hid ZC
  have HA := Lib.hid AC
  have HTS := Lib.hid hts
  have HZZ := Lib.hid hzz
  have HTL := Lib.hid htl
  clear hx hty ZC AC hts hzz htl
  obtain ⟨tA, htA⟩ : ∃ tA, tA = (if c = z then A else A.map (fun x => x.add z)) := ⟨_, rfl⟩
  have hrt := run_tail A ds.length c z hz
  rw [← htA] at HA hrt
  clear htA HTY
  have hf1' : Fence.wide.fn 102 := trivial
  have hf2' : Fence.wide.fn 104 := trivial
  have hf3' : Fence.wide.fn 103 := trivial
  refine callsIn_of_wp_marks Tryz.func78 rfl trivial ?_ rfl
  simp only [Tryz.ntmps78, List.size_toArray, List.length_cons, List.length_nil, Nat.reduceAdd, Nat.reduceSub, Array.replicate_succ, Array.replicate_zero, List.push_toArray, List.append_toArray, List.nil_append, List.cons_append]
  gi_wp2_with (gi_at_call 102; refine HZ.out.mono ?_; rintro e w' ⟨rfl, rfl⟩)
  rw [← hW1]
  refine HA.out.mono ?_
  rintro e W3 ⟨va, out, rfl, hasc, hownA, hb3⟩
  obtain ⟨A3, c3, rfl⟩ := hownA.form
  have hs3 := hb3.size
  rw [World.size_alloc, hs1] at hs3
  have hs3' : w.heap.size + 2 ≤ W3.heap.size := by omega
  have hbx : Boxed W3 (w.heap.size + 1) 23 (.slice (some ⟨w.heap.size, 0, none⟩) z z) := by
    have h := Boxed.new W1 23 (.slice (some ⟨w.heap.size, 0, none⟩) z z)
    rw [hs1] at h
    exact (hb3.block (w.heap.size + 1) (by rw [World.size_alloc, hs1]; omega)).trans h
  have hrow3 : W3.ownsRow w.heap.size 5 1 (.slice (some ⟨w.heap.size, 0, none⟩) z z) z ((List.replicate z (0 : UInt8)).map bv) :=
    own_turns hown1 (((Turns.refl (fun _ => False) W1).alloc _).trans (Turns.of_below hb3 (S := fun _ => False)) (fun _ _ h => h)) (fun _ _ h => h)
  have hB3 : Below w.heap.size w W3 := (hB1.alloc (by omega) _).trans (hb3.mono (by rw [World.size_alloc]; omega))
  have hAb : ∀ k, (Value.slice A3 out.length c3).ownBlock = some k → w.heap.size + 1 < k ∧ k < W3.heap.size := fun k hk => by
    have h := World.ownsRow.lt hownA k hk
    rw [World.size_alloc, hs1] at h
    omega
  have hby3 := hownA.byt
  have HOA := Lib.hid hAb
  have HASC := Lib.hid hasc
  have HBX := Lib.hid hbx
  have HROW := Lib.hid hrow3
  have HB3 := Lib.hid hB3
  have HBY := Lib.hid hby3
  clear hAb hasc hbx hrow3 hB3 hby3 hownA hb3 hs3 hown1 hB1 hs1 hW1 HX HA HZ hmk hrt
  gi_wp2_with (gi_at_call 103; refine (backw_in Fence.wide 2 trivial rfl _ _ _ _).mono ?_; rintro e w' ⟨rfl, rfl⟩)
  have bS := Boxed.new W3 23 (.slice A3 out.length c3)
  have hSv : ∀ k, (Value.slice A3 out.length c3).ownBlock = some k → (w.heap.size + 1 < k ∧ k ≤ W3.heap.size) := fun k hk => by
    have := HOA.out k hk
    omega
  have hol : out.length ≤ 160000 := by
    have h1 := valF_lt hf1 (by omega) ts (fun d hd => hds d (by rw [HTS.out] at hd; exact List.mem_of_mem_drop hd))
    have h2 := HASC.out.short hb0 h1
    have := HTL.out
    omega
  refine wpIn_rangeFunc_ownG (F := Fence.wide) (n := 3) rfl (by omega) (gf := 125) (lb := #[.pointer (some ⟨W3.heap.size, 0, none⟩)]) rfl trivial (enters_of Tryz.func125 (by kernel_rfl) rfl)
    (backw_stops Fence.wide 2 trivial rfl (by omega) W3.heap.size W3.heap.size (fun k => w.heap.size + 1 < k ∧ k ≤ W3.heap.size) _ out _ (by omega) (by simp) (by simp) hSv bS.cell (HBY.out.keep fun b o hb => ((Below.refl W3.heap.size W3).alloc (Nat.le_refl _) _).cell (p := ⟨b, o, none⟩) hb)) (fun h k => h.trans k) (fun W l o o' hl _ _ _ => Holds.putObj W l o' (by simp at hl; omega)) (Below.refl _ _) (fun _ => rfl)
    (fun pre W => (∃ v, Boxed W (w.heap.size + 1) 23 v ∧ W.ownsRow w.heap.size 5 1 v (outP z pre).length ((outP z pre).map bv) ∧ ∀ k, v.ownBlock = some k → ¬ (w.heap.size + 1 < k ∧ k ≤ W3.heap.size)) ∧ (Below w.heap.size w W ∧ W3.heap.size + 1 ≤ W.heap.size))
    (fun _ _ _ => False)
    (OwnFrom.and (Own.from (holdsRow_own w.heap.size (w.heap.size + 1) 23 5 1 (fun pre => (outP z pre).length) (fun pre => (outP z pre).map bv) (fun _ v => ∀ k, v.ownBlock = some k → ¬ (w.heap.size + 1 < k ∧ k ≤ W3.heap.size))) _) (OwnFrom.and (ownFrom_below (Nat.le_refl _) (by simp; omega)) (ownFrom_size _ _)))
    (fun _ _ _ _ _ hs _ _ => hs)
    ⟨⟨_, HBX.out.alloc _, by simpa [outP] using (HROW.out.alloc _), fun k hk => by
      have : w.heap.size = k := by simpa [Value.ownBlock] using hk
      omega⟩, HB3.out.alloc (by omega) _, by simp⟩
    (fun x => { tmps := #[.slice A ds.length c, .int .i64 f, .int .i64 b, undef, undef, undef, .slice none 0 0, .int .i64 z, .pointer (some ⟨w.heap.size + 1, 0, none⟩), undef, Value.int .u8 (x.2.toNat : Int), .slice A ds.length c, .int .i64 z, .int .i64 z, .slice (some ⟨w.heap.size, 0, none⟩) z z, .slice A ds.length c, .int .i64 z, .slice tA (ds.length - z) (c - z), .int .i64 f, .int .i64 b, .slice A3 out.length c3, .func (.func 125) #[] #[.pointer (some ⟨W3.heap.size, 0, none⟩)], .int .i64 (x.1 : Int), Value.int .u8 (x.2.toNat : Int), undef, undef, undef, undef, undef], defers := [] }) ?assign ?body ?done ?stop
  case assign =>
    intro l x W K hK
    gi_wp2
    exact hK
  case body =>
    rintro l pre x W ⟨⟨v, hv, hrow, hno⟩, hB, hsz⟩ hlt
    obtain ⟨Av, cv, rfl⟩ := own_form hrow
    have hc := hv.cell
    have hpl := outP_length z pre
    have hmade : Byt (W.alloc (.cells #[.int .u8 (x.2.toNat : Int)] 5)) (W.heap.size + 1) (.slice (some ⟨W.heap.size, 0, none⟩) 1 1) [x.2] :=
      Byt.made W _ [_] [x.2] rfl (by unfold maxLen; simp)
    have hpb : (outP z pre).length ≤ 200000 := by omega
    have HSN := Lib.hid (outP_snoc z pre x)
    clear hpl
    gi_wp2_with (gi_at_builtin; refine wpListIn_append_bytes rfl (.tmp 24) (.tmp 26) 23 rfl w.heap.size 5 i0 slice_u8 hi hz0 hz1 hz2 _ (outP z pre).length ((outP z pre).map bv) rfl (hrow.alloc _) (W.heap.size + 1) _ [x.2] rfl hmade (by simp; omega) (by have := hB.size; simp; omega) ?_; intro v' w1 hown' hgrow hat; obtain ⟨A', c', rfl⟩ := own_form hown'; obtain ⟨hv1, hv2, hr2, hk2, hb2⟩ := hv.appended (by decide) hrow hB.size (by omega) hown' hgrow; have hc1 := hv1.cell; have hf1 := hv1.frozen)
    refine ⟨hk2.from _, ?_, ⟨_, hv2, ?_, ?_⟩, hB.trans hb2, ?_⟩
    · refine Holds.setCell (p := ⟨w.heap.size + 1, 0, none⟩) (fun k hk => ?_) (by show ¬ (w.heap.size + 1 < w.heap.size + 1 ∧ _); omega) _
      refine (hgrow.block k (by simp; omega) (fun e => hno k e.symm hk)).trans (Below.heap_alloc _ _ _ (by omega))
    · rw [HSN.out]; simpa using hr2
    · intro k hk
      rcases hat with h | h
      · rw [h] at hk
        exact hno k hk
      · rw [h] at hk
        have h2 : W.heap.size + 1 = k := by simpa using hk
        omega
    · exact Nat.le_trans hsz hb2.size
  case done =>
    rintro D ys W hD rfl ⟨⟨v, hv, hrow, hno⟩, hB, hsz⟩ hK
    obtain ⟨Av, cv, rfl⟩ := own_form hrow
    have hc := hv.cell
    have HREB : Hid (RebOf b f ds (outP z (upto (fromEnd out) out.length))) := Lib.hid ⟨out, by rw [← HZZ.out, ← HTS.out]; exact HASC.out, by rw [outP_all, HZZ.out]⟩
    gi_wp2
    refine ⟨by simp, .inl ⟨_, _, rfl, run_takeDeferred hK, ?_⟩⟩
    exact ⟨_, results_tmp rfl _ _ _, .slice Av (outP z (upto (fromEnd out) out.length)).length cv, _, rfl, HREB.out, ownsRow_putObj hrow _ hK rfl, hB.trans (belowK_b (w := w) (Nat.le_refl _) W D _ _ (by simp at hD; omega) hK rfl rfl)⟩
  case stop =>
    rintro D c pre W _ _ h _
    exact h.elim
theorem reb_any (B : Nat) (x : Value) (ds : List UInt8) (f b : Nat) (w : World) (hx : Byt w B x ds) (hB : B ≤ w.heap.size) (hl : ds.length ≤ 20000) (hf0 : 2 ≤ f) (hf1 : f ≤ 256) (hb0 : 2 ≤ b) (hb1 : b ≤ 256) (hds : ∀ d ∈ ds, d.toNat < f) :
    Calls Tryz.prog 78 #[x, .int .i64 f, .int .i64 b] w fun e w' => ∃ v out, e = .returned v ∧ RebOf b f ds out ∧ OwnB w' w.heap.size v out ∧ Below w.heap.size w w' :=
  (callsIn_wide (n := 3)).1 (reb_in B x ds f b w hx hB hl hf0 hf1 hb0 hb1 hds)
end Go.Proofs.YtocblkacdoahfaaGreatDoor
