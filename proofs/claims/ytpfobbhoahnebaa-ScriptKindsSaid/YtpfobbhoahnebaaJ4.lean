/-
  Texts joined: SnVal, SnFrom, SnRfrom, SnOps, SnParse, SnFind. Conditions: those of each.
-/
import Derived.Test.YtpfobbhoahnebaaJ3
import Derived.IntWalk
import Derived.Test.YtpfobbhoahnebaaJ2
import Derived.Deep.LoopGhost
/-
  script.value: the number that at most eight bytes say. Conditions: at most eight bytes.
-/
namespace Go.Proofs.Ytpfobbhoahnebaa
open Go.RowKit Go.Shelf

attribute [local go_sem] Oper.semAt_some

theorem or_low (m c : Nat) (hm : m < 36028797018963968) (hc : c < 256) : bits .or .i64 ((m : Int) * 256) (c : Int) = (m : Int) * 256 + c := by
  have e1 : (m : Int) * 256 = ((m * 256 : Nat) : Int) := by omega
  rw [e1]
  show IntKind.i64.wrap ((BitVec.ofInt 64 ((m * 256 : Nat) : Int) ||| BitVec.ofInt 64 ((c : Nat) : Int)).toNat : Int) = _
  rw [BitVec.toNat_or, Go.ofInt_u64 _ (by omega), Go.ofInt_u64 _ (by omega)]
  have e2 : m * 256 ||| c = m * 256 + c := by
    have := Nat.two_pow_add_eq_or_of_lt (i := 8) (b := c) (by omega) m
    rw [show 2 ^ 8 * m = m * 256 by omega] at this
    exact this.symm
  rw [e2, IntWalk.i64_in _ (by omega)]
  omega

/-- What the bytes that have come make of y. -/
def valG (y : Nat) (pre : List (Nat × UInt8)) : Nat := pre.foldl (fun s x => s * 256 + x.2.toNat) y
theorem valG_snoc (y : Nat) (pre : List (Nat × UInt8)) (x : Nat × UInt8) : valG y (pre ++ [x]) = valG y pre * 256 + x.2.toNat := by simp [valG]
theorem valG_lt (y : Nat) (pre : List (Nat × UInt8)) : valG y pre < (y + 1) * 256 ^ pre.length := by
  obtain ⟨r, hr⟩ : ∃ r, r = pre.reverse := ⟨_, rfl⟩
  have hp : pre = r.reverse := by rw [hr, List.reverse_reverse]
  rw [hp]
  clear hp hr pre
  induction r with
  | nil => simp [valG]
  | cons x r ih =>
    rw [List.reverse_cons, valG_snoc, List.length_append, List.length_cons, List.length_nil, Nat.zero_add, Nat.pow_succ, ← Nat.mul_assoc]
    have := x.2.toNat_lt
    omega
theorem valG_room {y : Nat} {pre : List (Nat × UInt8)} (hy : y < 128) (h : pre.length ≤ 6) : valG y pre < 36028797018963968 := by
  have h1 := valG_lt y pre
  have h2 : 256 ^ pre.length ≤ 256 ^ 6 := Nat.pow_le_pow_right (by decide) h
  have h3 : (y + 1) * 256 ^ pre.length ≤ 128 * 256 ^ 6 := Nat.mul_le_mul (by omega) h2
  have h4 : 128 * 256 ^ 6 = 36028797018963968 := by decide
  omega
theorem valG_upto (y : Nat) (fr : List UInt8) (k : Nat) (hk : k ≤ fr.length) : valG y (upto (fromEnd fr) k) = valN (fr.drop (fr.length - k)) + 256 ^ k * y := by
  induction k with
  | zero => simp [upto, valG, valN]
  | succ k ih =>
    rw [upto_succ, valG_snoc, ih (by omega)]
    have e : fr.drop (fr.length - (k + 1)) = fr[fr.length - (k + 1)]'(by omega) :: fr.drop (fr.length - k) := by
      rw [List.drop_eq_getElem_cons (by omega)]
      congr 2
      omega
    rw [e]
    show _ = (fr[fr.length - (k + 1)]'(by omega)).toNat + 256 * valN (fr.drop (fr.length - k)) + 256 ^ (k + 1) * y
    have e2 : (fromEnd fr k).2 = fr[fr.length - (k + 1)]'(by omega) := by
      unfold fromEnd
      show fr[fr.length - 1 - k]?.getD 0 = _
      rw [List.getElem?_eq_getElem (by omega)]
      show fr[fr.length - 1 - k]'_ = _
      congr 1
      omega
    rw [e2, Nat.pow_succ, Nat.add_mul, Nat.mul_assoc, Nat.mul_comm y 256, ← Nat.mul_assoc]
    omega
theorem valG_all (q : UInt8) (fr : List UInt8) : valG (q.toNat % 128) (upto (fromEnd fr) fr.length) = valN (fr ++ [UInt8.ofNat (q.toNat % 128)]) := by
  rw [valG_upto _ _ _ (Nat.le_refl _), Nat.sub_self, List.drop_zero, valN_append]
  show _ = valN fr + 256 ^ fr.length * ((UInt8.ofNat (q.toNat % 128)).toNat + 256 * 0)
  rw [to_lo, Nat.mul_zero, Nat.add_zero]

theorem value_nil (B : Nat) (x : Value) (w : World) (hx : Byt w B x []) :
    Calls Try.prog 60 #[x] w fun e w' => e = .returned (.int .i64 0) ∧ Below w.heap.size w w' := by
  obtain ⟨A, c, rfl⟩ := hx.form
  go_enter Try.func60, Try.ntmps60
  go_wp2
  go_ret
  exact ⟨rfl, Below.refl _ _⟩

theorem cell_al {W : World} {p : Addr} {v : Value} (o : Obj) (h : W.cell? p = some v) : (W.alloc o).cell? p = some v :=
  (((Below.refl W.heap.size W).alloc (Nat.le_refl _) o).cell (World.block_lt_of_cell? _ _ h)).trans h
theorem frozen_al {W : World} {p : Addr} {v : Value} (o : Obj) (h : W.cell? p = some v) (hf : W.frozen? p = false) : (W.alloc o).frozen? p = false :=
  (((Below.refl W.heap.size W).alloc (Nat.le_refl _) o).frozen (World.block_lt_of_cell? _ _ h)).trans hf

theorem backw_any (a : Option Addr) (len cap : Nat) (w : World) :
    Calls Try.prog 84 #[.slice a len cap] w fun e w' => e = .returned (.func (.func 98) #[] #[.pointer (some ⟨w.heap.size, 0, none⟩)]) ∧ w' = w.alloc (.cells #[.slice a len cap] 22) :=
  (callsIn_wide (n := 3)).1 (backw_in Fence.wide 3 trivial rfl a len cap w)

set_option maxRecDepth 100000 in
set_option maxHeartbeats 2000000 in
theorem value_in (B b o c : Nat) (fr : List UInt8) (q : UInt8) (hl : fr.length ≤ 7) (w : World)
    (hx : Byt w B (.slice (some ⟨b, o, none⟩) (fr.length + 1) c) (fr ++ [q])) (hB : B ≤ w.heap.size) :
    CallsIn Fence.wide 3 Try.prog 60 #[.slice (some ⟨b, o, none⟩) (fr.length + 1) c] w fun e W' => e = .returned (.int .i64 (valS (fr ++ [q]))) ∧ Below w.heap.size w W' := by
  obtain ⟨A', c', e0, g1, g2, _, h4⟩ := hx
  obtain ⟨e1, e2, e3⟩ := Value.slice.inj e0
  subst e1 e3
  clear e2
  obtain ⟨b', o', e1, hb, hc⟩ := h4 (by simp)
  cases e1
  have hcell : w.cell? ⟨b, o + fr.length, none⟩ = some (.int .u8 (q.toNat : Int)) := hc fr.length q (by simp)
  rw [List.length_append, List.length_cons, List.length_nil, Nat.zero_add] at g1
  unfold maxLen at g2
  have hfr : Byt w B (.slice (some ⟨b, o, none⟩) fr.length c) fr := by
    refine ⟨some ⟨b, o, none⟩, c, rfl, by omega, by unfold maxLen; omega, (by intro h; cases h), fun _ => ⟨b, o, rfl, hb, fun j u hu => ?_⟩⟩
    exact hc j u (by rw [List.getElem?_append_left (List.getElem?_eq_some_iff.1 hu).1]; exact hu)
  have HFR := Lib.hid hfr
  clear hfr h4 hc e0
  have hq128 : q.toNat % 128 < 128 := Nat.mod_lt _ (by decide)
  have han := andNot128 q
  have hall := valG_all q fr
  obtain ⟨y, hy⟩ : ∃ y : Nat, y = q.toNat % 128 := ⟨_, rfl⟩
  rw [← hy] at hq128 han hall
  have HALL := Lib.hid hall
  have HY := Lib.hid hy
  clear hy hall
  have hbw : b < w.heap.size := by omega
  refine callsIn_of_wp_marks Try.func60 rfl trivial ?_ rfl
  simp only [Try.ntmps60, List.size_toArray, List.length_cons, List.length_nil, Nat.reduceAdd, Nat.reduceSub, Array.replicate_succ, Array.replicate_zero, List.push_toArray, List.append_toArray, List.nil_append, List.cons_append]
  refine wpIn_wide.2 ?_
  go_wp2_with fail
  refine (backw_any _ _ _ _).mono ?_
  rintro e w' ⟨rfl, rfl⟩
  go_wp2_with fail
  clear han
  have hB1 : Below w.heap.size w (w.alloc (.cells #[.int .i64 (y : Int)] 2)) := (Below.refl _ w).alloc (Nat.le_refl _) _
  have bN := Boxed.new w 2 (.int .i64 (y : Int))
  obtain ⟨W1, hW1⟩ : ∃ W1, W1 = w.alloc (.cells #[.int .i64 (y : Int)] 2) := ⟨_, rfl⟩
  have hs1 : W1.heap.size = w.heap.size + 1 := by rw [hW1]; simp
  rw [← hW1] at hB1 bN ⊢
  have bS := Boxed.new W1 22 (.slice (some ⟨b, o, none⟩) fr.length c)
  rw [hs1] at bS
  have hB0 : Below w.heap.size w (W1.alloc (.cells #[.slice (some ⟨b, o, none⟩) fr.length c] 22)) := hB1.alloc (by omega) _
  have hfr2 : Byt (W1.alloc (.cells #[.slice (some ⟨b, o, none⟩) fr.length c] 22)) B (.slice (some ⟨b, o, none⟩) fr.length c) fr := HFR.out.below (hB0.mono hB)
  have hSv : ∀ k, (Value.slice (some ⟨b, o, none⟩) fr.length c).ownBlock = some k → (k ≠ w.heap.size ∧ k ≤ w.heap.size + 1) := fun k hk => by
    have : b = k := by simpa [Value.ownBlock] using hk
    omega
  refine (wpIn_wide (n := 3)).1 ?_
  refine wpIn_rangeFunc_ownG rfl (by omega) (gf := 98) (lb := #[.pointer (some ⟨w.heap.size + 1, 0, none⟩)]) rfl trivial (enters_of Try.func98 (by kernel_rfl) rfl)
    (backw_stops Fence.wide 2 trivial rfl (by omega) (w.heap.size + 1) B (fun k => k ≠ w.heap.size ∧ k ≤ w.heap.size + 1) _ fr _ (by omega) (by simp; omega) (by simp; omega) hSv bS.cell hfr2) (fun h k => h.trans k) (fun W l o o' hl _ _ _ => Holds.putObj W l o' (by simp at hl; omega)) (Below.refl _ _) (fun _ => rfl)
    (fun pre W => (W.cell? ⟨w.heap.size, 0, none⟩ = some (.int .i64 (valG y pre : Nat)) ∧ W.frozen? ⟨w.heap.size, 0, none⟩ = false) ∧ Below w.heap.size w W)
    (fun _ _ _ => False)
    (OwnFrom.and (Own.from (fun s A B row hs hg hr => ⟨cell_kept hs.1 hg hr, (frozen_kept hs.1 hg hr).trans hs.2⟩) _) (ownFrom_below (Nat.le_refl _) (by simp; omega)))
    (fun _ _ _ _ _ hs _ _ => hs)
    ⟨⟨cell_al _ bN.cell, frozen_al _ bN.cell bN.frozen⟩, hB0⟩
    (fun x => { tmps := #[.slice (some ⟨b, o, none⟩) (fr.length + 1) c, undef, .int .i64 0, .int .i64 fr.length, .pointer (some ⟨w.heap.size, 0, none⟩), undef, .int .u8 (x.2.toNat : Int), .slice (some ⟨b, o, none⟩) (fr.length + 1) c, .int .i64 ((fr.length : Int) + 1), .bool false,
      .slice (some ⟨b, o, none⟩) (fr.length + 1) c, .int .i64 ((fr.length : Int) + 1), .int .i64 fr.length, .slice (some ⟨b, o, none⟩) (fr.length + 1) c, .int .i64 fr.length, .pointer (some ⟨b, o + fr.length, none⟩), .int .u8 (q.toNat : Int), .int .u8 (y : Int), .int .i64 (y : Int),
      .slice (some ⟨b, o, none⟩) (fr.length + 1) c, .int .i64 fr.length, .slice (some ⟨b, o, none⟩) fr.length c, .func (.func 98) #[] #[.pointer (some ⟨w.heap.size + 1, 0, none⟩)], .int .i64 (x.1 : Int), .int .u8 (x.2.toNat : Int), undef, undef, undef, undef, undef, undef, undef, undef, undef, undef, undef, undef, undef, undef], defers := [] }) ?assign ?body ?done ?stop
  case assign =>
    intro l x W K hK
    gi_wp2
    exact hK
  case body =>
    rintro l pre x W ⟨⟨hc, hf⟩, hB⟩ hlt
    have hg := valG_room (y := y) (pre := pre) hq128 (by omega)
    have hsn := valG_snoc y pre x
    have hx256 := x.2.toNat_lt
    have hor := or_low (valG y pre) x.2.toNat hg hx256
    have HSN := Lib.hid hsn
    clear hsn
    generalize valG y pre = g at *
    gi_wp2
    refine ⟨(KeepsOthers.setCell _ _ _).from _, (Holds.refl _ W).setCell (p := ⟨w.heap.size, 0, none⟩) (by show ¬ (w.heap.size ≠ w.heap.size ∧ _); simp) _, ⟨?_, by rw [World.frozen?_setCell]; exact hf⟩, hB.setCell (p := ⟨w.heap.size, 0, none⟩) (Nat.le_refl _) _⟩
    rw [HSN.out, World.cell?_setCell_same' _ _ _ (by rw [hc]; rfl)]
    congr 2
  case done =>
    rintro D ys W hD rfl ⟨⟨hc, _⟩, hB⟩ hK
    have hcW : W.cell? ⟨b, o + fr.length, none⟩ = some (.int .u8 (q.toNat : Int)) := (hB.cell (p := ⟨b, o + fr.length, none⟩) hbw).trans hcell
    have hV := valN_last_lt (fr := fr) (x := UInt8.ofNat y) hl (by rw [HY.out, to_lo]; omega)
    rw [HALL.out] at hc
    obtain ⟨V, hVV⟩ : ∃ V, V = valN (fr ++ [UInt8.ofNat y]) := ⟨_, rfl⟩
    rw [← hVV] at hc hV
    by_cases hq : 128 ≤ q.toNat
    · have hand : bits .and .u8 (q.toNat : Int) 128 = 128 := by rw [and128, if_pos hq]
      have hval : valS (fr ++ [q]) = -(V : Int) := by rw [valS_hi hq, ← HY.out, ← hVV]
      have HV := Lib.hid hval
      clear hval hVV
      go_wp2_with fail
      refine ⟨by simp, .inl ⟨_, _, rfl, run_takeDeferred hK, ?_⟩⟩
      exact ⟨_, results_tmp rfl _ _ _, by rw [HV.out]; rfl, hB.trans (belowK_b (w := w) (Nat.le_refl _) W D _ _ (by simp at hD; omega) hK rfl rfl)⟩
    · have hand : bits .and .u8 (q.toNat : Int) 128 = 0 := by rw [and128, if_neg hq]
      have hval : valS (fr ++ [q]) = (V : Int) := by rw [valS_lo (by omega), hVV, HY.out, lo128 (by omega)]
      have HV := Lib.hid hval
      clear hval hVV
      go_wp2_with fail
      refine ⟨by simp, .inl ⟨_, _, rfl, run_takeDeferred hK, ?_⟩⟩
      exact ⟨_, results_tmp rfl _ _ _, by rw [HV.out]; rfl, hB.trans (belowK_b (w := w) (Nat.le_refl _) W D _ _ (by simp at hD; omega) hK rfl rfl)⟩
  case stop =>
    rintro D c pre W _ _ h _
    exact h.elim

theorem value_any (B : Nat) (x : Value) (xs : List UInt8) (hl : xs.length ≤ 8) (w : World) (hx : Byt w B x xs) (hB : B ≤ w.heap.size) :
    Calls Try.prog 60 #[x] w fun e w' => e = .returned (.int .i64 (valS xs)) ∧ Below w.heap.size w w' := by
  rcases snoc_cases xs with rfl | ⟨fr, q, rfl⟩
  · exact value_nil B x w hx
  · have hx2 := hx
    obtain ⟨A, c, rfl, h1, h2, _, h4⟩ := hx
    obtain ⟨b, o, rfl, hb, hc⟩ := h4 (by simp)
    rw [List.length_append, List.length_cons, List.length_nil, Nat.zero_add] at hl hx2 ⊢
    exact (callsIn_wide (n := 3)).1 (value_in B b o c fr q (by omega) w hx2 hB)
end Go.Proofs.Ytpfobbhoahnebaa

/-
  script.FromNumber and the reference's. Conditions: sizes within the reach.
-/
namespace Go.Proofs.Ytpfobbhoahnebaa
open Go.RowKit

/-- What FromNumber answers: the number and the error. -/
def fromB (xs : List UInt8) (most : Int) : Int × Int :=
  if most < xs.length ∨ 8 < xs.length then (0, 2) else if xs = [] then (0, 0) else if fewest xs then (valS xs, 0) else (0, 3)

set_option maxHeartbeats 400000 in
theorem bequal_any (B B' : Nat) (x y : Value) (xs ys : List UInt8) (w : World) (hx : Byt w B x xs) (hy : Byt w B' y ys) :
    Calls Try.prog 61 #[x, y] w fun e w' => e = .returned (.bool (xs == ys)) ∧ w = w' := by
  have h1 := run_string_of (P := Try.prog) w 22 9 5 slice_u8 Try.underlying5 Try.underlying9 B x xs hx
  have h2 := run_string_of (P := Try.prog) w 22 9 5 slice_u8 Try.underlying5 Try.underlying9 B' y ys hy
  go_enter Try.func61, Try.ntmps61
  go_wp2
  go_ret
  exact ⟨rfl, rfl⟩

theorem valS_bd (xs : List UInt8) (h : xs.length ≤ 8) : -9223372036854775808 ≤ valS xs ∧ valS xs ≤ 9223372036854775807 := by
  rcases snoc_cases xs with rfl | ⟨fr, q, rfl⟩
  · rw [valS_nil]; omega
  · rw [List.length_append, List.length_cons, List.length_nil] at h
    by_cases hq : 128 ≤ q.toNat
    · rw [valS_hi hq]
      have := valN_last_lt (fr := fr) (x := UInt8.ofNat (q.toNat % 128)) (by omega) (by rw [to_lo]; omega)
      omega
    · rw [valS_lo (by omega)]
      have := valN_last_lt (fr := fr) (x := q) (by omega) (by omega)
      omega

set_option maxRecDepth 100000 in
set_option maxHeartbeats 1600000 in
theorem from_any (B : Nat) (x : Value) (xs : List UInt8) (most : Int) (hm0 : -9223372036854775808 ≤ most) (hm1 : most ≤ 9223372036854775807) (w : World) (hx : Byt w B x xs) (hB : B ≤ w.heap.size) :
    Calls Try.prog 24 #[x, .int .i64 most] w fun e w' => e = .returned (.tuple #[.int .i64 (fromB xs most).1, .int .i64 (fromB xs most).2]) ∧ Below w.heap.size w w' := by
  have hlen := hx.len
  unfold maxLen at hlen
  by_cases hl : most < xs.length ∨ 8 < xs.length
  · have hf : fromB xs most = (0, 2) := by unfold fromB; rw [if_pos hl]
    rw [hf]
    obtain ⟨A, c, rfl⟩ := hx.form
    have hmin : (if most ≤ 8 then most else 8) < xs.length := by split <;> omega
    clear hx hf
    by_cases h8 : most ≤ 8
    · rw [if_pos h8] at hmin
      go_enter Try.func24, Try.ntmps24
      go_wp2_with fail
      go_ret2
      exact ⟨rfl, Below.refl _ _⟩
    · rw [if_neg h8] at hmin
      go_enter Try.func24, Try.ntmps24
      go_wp2_with fail
      go_ret2
      exact ⟨rfl, Below.refl _ _⟩
  · have hag := again_any xs (by omega)
    obtain ⟨v0, v1⟩ := valS_bd xs (by omega)
    have HV := Lib.hid (fun W (h : Byt W B x xs) (hB : B ≤ W.heap.size) => value_any B x xs (by omega) W h hB)
    have HN := Lib.hid (fun W => number_any (valS xs) W v0 v1)
    have HX := Lib.hid hx
    obtain ⟨A, c, rfl⟩ := hx.form
    have hf : fromB xs most = if decide (numB (valS xs) = xs) = true then (valS xs, 0) else (0, 3) := by
      rw [hag]
      unfold fromB
      rw [if_neg hl]
      by_cases hn : xs = []
      · subst hn; simp [valS_nil]
      · rw [if_neg hn, decide_eq_false hn, Bool.false_or]
    have hbeq : (numB (valS xs) == xs) = decide (numB (valS xs) = xs) := by
      rw [Bool.eq_iff_iff]; simp
    have hm : (xs.length : Int) ≤ most := by omega
    have hm8 : (xs.length : Int) ≤ 8 := by omega
    clear hx hag hl
    by_cases heq : decide (numB (valS xs) = xs) = true
    · rw [if_pos heq] at hf
      rw [heq] at hbeq
      rw [hf]
      have HB := Lib.hid hbeq
      clear hf heq hbeq
      obtain ⟨V, hV⟩ : ∃ V, V = valS xs := ⟨_, rfl⟩
      obtain ⟨L, hL⟩ : ∃ L, L = numB V := ⟨_, rfl⟩
      rw [← hV] at HV HN HB v0 v1 ⊢
      rw [← hL] at HN HB
      clear hV hL
      by_cases h8 : most ≤ 8
      all_goals
        go_enter Try.func24, Try.ntmps24
        go_wp2_with fail
        refine (HV.out _ HX.out hB).mono ?_
        rintro e w1 ⟨rfl, hb1⟩
        go_wp2_with fail
        refine (HN.out _).mono ?_
        rintro e w2 ⟨A2, c2, rfl, hown, hb2⟩
        go_wp2_with fail
        refine (bequal_any _ B _ _ L xs _ (Byt.of_own hown) ((HX.out.below (hb1.mono hB)).below (hb2.mono (Nat.le_trans hB hb1.size)))).mono ?_
        rintro e w3 ⟨rfl, rfl⟩
        rw [HB.out]
        go_wp2_with fail
        go_ret2
        exact ⟨rfl, hb1.trans (hb2.mono hb1.size)⟩
    · rw [if_neg heq] at hf
      rw [Bool.eq_false_iff.2 heq] at hbeq
      rw [hf]
      have HB := Lib.hid hbeq
      clear hf heq hbeq
      obtain ⟨V, hV⟩ : ∃ V, V = valS xs := ⟨_, rfl⟩
      obtain ⟨L, hL⟩ : ∃ L, L = numB V := ⟨_, rfl⟩
      rw [← hV] at HV HN HB v0 v1
      rw [← hL] at HN HB
      clear hV hL
      by_cases h8 : most ≤ 8
      all_goals
        go_enter Try.func24, Try.ntmps24
        go_wp2_with fail
        refine (HV.out _ HX.out hB).mono ?_
        rintro e w1 ⟨rfl, hb1⟩
        go_wp2_with fail
        refine (HN.out _).mono ?_
        rintro e w2 ⟨A2, c2, rfl, hown, hb2⟩
        go_wp2_with fail
        refine (bequal_any _ B _ _ L xs _ (Byt.of_own hown) ((HX.out.below (hb1.mono hB)).below (hb2.mono (Nat.le_trans hB hb1.size)))).mono ?_
        rintro e w3 ⟨rfl, rfl⟩
        rw [HB.out]
        go_wp2_with fail
        go_ret2
        exact ⟨rfl, hb1.trans (hb2.mono hb1.size)⟩
end Go.Proofs.Ytpfobbhoahnebaa

/-
  The reference's FromNumber of layer 11. Conditions: sizes within the reach.
-/
namespace Go.Proofs.Ytpfobbhoahnebaa
open Go.RowKit

/-- The bytes with the sign taken off. -/
def bare (fr : List UInt8) (q : UInt8) : List UInt8 := fr ++ [UInt8.ofNat (q.toNat % 128)]
theorem bare_length (fr : List UInt8) (q : UInt8) : (bare fr q).length = fr.length + 1 := by simp [bare]
theorem bare_drop {fr : List UInt8} {q : UInt8} {k : Nat} (h : k < fr.length) : valN ((bare fr q).drop k) = valN ((bare fr q).drop (k + 1)) * 256 + (fr[k]).toNat := by
  rw [List.drop_eq_getElem_cons (by rw [bare_length]; omega)]
  show ((bare fr q)[k]'(by rw [bare_length]; omega)).toNat + 256 * valN ((bare fr q).drop (k + 1)) = _
  have : (bare fr q)[k]'(by rw [bare_length]; omega) = fr[k] := by unfold bare; exact List.getElem_append_left h
  rw [this]
  omega
theorem bare_last (fr : List UInt8) (q : UInt8) : valN ((bare fr q).drop fr.length) = q.toNat % 128 := by
  unfold bare
  rw [List.drop_append_of_le_length (Nat.le_refl _), List.drop_length]
  show (UInt8.ofNat (q.toNat % 128)).toNat + 256 * 0 = _
  rw [to_lo]
  omega
theorem bare_end (fr : List UInt8) (q : UInt8) : valN ((bare fr q).drop (fr.length + 1)) = 0 := by rw [List.drop_eq_nil_of_le (by rw [bare_length]; exact Nat.le_refl _)]; rfl
theorem bare_lt {fr : List UInt8} {q : UInt8} {k : Nat} (hl : fr.length ≤ 7) (h : 0 < k) : valN ((bare fr q).drop k) < 72057594037927936 := by
  have h1 := valN_lt ((bare fr q).drop k)
  rw [List.length_drop, bare_length] at h1
  have h2 : 256 ^ (fr.length + 1 - k) ≤ 256 ^ 7 := Nat.pow_le_pow_right (by decide) (by omega)
  have h3 : (256 : Nat) ^ 7 = 72057594037927936 := by decide
  omega

theorem rfrom_size (B : Nat) (x : Value) (xs : List UInt8) (most : Int) (w : World) (hx : Byt w B x xs) (hl : most < xs.length ∨ 8 < xs.length) :
    Calls Try.prog 25 #[x, .int .i64 most] w fun e w' => e = .returned (.tuple #[.int .i64 0, .int .i64 2]) ∧ w = w' := by
  have hlen := hx.len
  unfold maxLen at hlen
  obtain ⟨A, c, rfl⟩ := hx.form
  clear hx
  by_cases h1 : most < xs.length
  · clear hl
    go_enter Try.func25, Try.ntmps25
    go_wp2_with fail
    go_ret2
    exact ⟨rfl, rfl⟩
  · have h8 : (8 : Int) < xs.length := by omega
    clear hl
    have hd : decide (most < (xs.length : Int)) = false := decide_eq_false h1
    go_enter Try.func25, Try.ntmps25
    go_wp2_with fail
    go_ret2
    exact ⟨rfl, rfl⟩

theorem rfrom_nil (B : Nat) (x : Value) (most : Int) (hm0 : 0 ≤ most) (w : World) (hx : Byt w B x []) :
    Calls Try.prog 25 #[x, .int .i64 most] w fun e w' => e = .returned (.tuple #[.int .i64 0, .int .i64 0]) ∧ w = w' := by
  obtain ⟨A, c, rfl⟩ := hx.form
  clear hx
  have hd : decide (most < 0) = false := decide_eq_false (by omega)
  go_enter Try.func25, Try.ntmps25
  go_wp2_with fail
  go_ret2
  exact ⟨rfl, rfl⟩

set_option maxRecDepth 100000 in
set_option maxHeartbeats 3200000 in
theorem rfrom_num (B b o c : Nat) (fr : List UInt8) (q : UInt8) (hl : fr.length ≤ 7) (most : Int) (hm0 : (fr.length : Int) + 1 ≤ most) (hm1 : most ≤ 9223372036854775807) (w : World)
    (hx : Byt w B (.slice (some ⟨b, o, none⟩) (fr.length + 1) c) (fr ++ [q])) :
    Calls Try.prog 25 #[.slice (some ⟨b, o, none⟩) (fr.length + 1) c, .int .i64 most] w fun e w' => e = .returned (.tuple #[.int .i64 (if fewest (fr ++ [q]) then valS (fr ++ [q]) else 0), .int .i64 (if fewest (fr ++ [q]) then 0 else 3)]) ∧ w = w' := by
  have hq128 : q.toNat % 128 < 128 := Nat.mod_lt _ (by decide)
  obtain ⟨A', c', e0, g1, g2, _, h4⟩ := hx
  obtain ⟨e1, e2, e3⟩ := Value.slice.inj e0
  subst e1 e3
  clear e2
  obtain ⟨b', o', e1, hb, hc⟩ := h4 (by simp)
  cases e1
  have hcell : w.cell? ⟨b, o + fr.length, none⟩ = some (.int .u8 (q.toNat : Int)) := hc fr.length q (by simp)
  have hcells : ∀ k (hk : k < fr.length), w.cell? ⟨b, o + k, none⟩ = some (.int .u8 ((fr[k]).toNat : Int)) := fun k hk => hc k _ (by rw [List.getElem?_append_left hk]; exact List.getElem?_eq_getElem hk)
  rw [List.length_append, List.length_cons, List.length_nil, Nat.zero_add] at g1
  unfold maxLen at g2
  have HC := Lib.hid hcells
  clear h4 hc e0 hcells
  have hq256 := q.toNat_lt
  have hd : decide (most < (fr.length : Int) + 1) = false := decide_eq_false (by omega)
  obtain ⟨r1, hr1⟩ : ∃ r1, r1 = (if fewest (fr ++ [q]) then valS (fr ++ [q]) else 0) := ⟨_, rfl⟩
  obtain ⟨r2, hr2⟩ : ∃ r2 : Int, r2 = (if fewest (fr ++ [q]) then 0 else 3) := ⟨_, rfl⟩
  rw [← hr1, ← hr2]
  have HR := Lib.hid (And.intro hr1 hr2)
  clear hr1 hr2
  go_enter Try.func25, Try.ntmps25
  go_wp2_with fail
  go_loop [6, 7] (fun m i => ∃ k : Nat, k ≤ fr.length + 1 ∧ i = .int .i64 ((k : Int) - 1) ∧ m = .int .u64 (valN ((bare fr q).drop k) : Nat)) (fun _ i => (intOf i + 1).toNat)
  case atStart => exact ⟨fr.length + 1, Nat.le_refl _, by congr 1; omega, by rw [bare_end]; rfl⟩
  case round =>
    obtain ⟨k, hk, rfl, rfl⟩ := hrel
    by_cases hlt : 0 < k
    · obtain ⟨j, rfl⟩ : ∃ j, k = j + 1 := ⟨k - 1, by omega⟩
      have hvb := bare_lt (fr := fr) (q := q) hl hlt
      have ei : ((j + 1 : Nat) : Int) - 1 = (j : Int) := by omega
      rw [ei]
      clear ei
      by_cases hj : j = fr.length
      · subst hj
        rw [bare_end]
        have hbl := bare_last fr q
        have hee : ((fr.length : Int) == (fr.length : Int)) = true := by simp
        have HBL := Lib.hid hbl
        clear hbl
        go_wp2_with fail
        go_round
        case rel => exact ⟨fr.length, by omega, rfl, by rw [HBL.out]; first | rfl | (congr 1; omega)⟩
        case measure => simp [intOf]
      · have hcj := HC.out j (by omega)
        have hdr := bare_drop (fr := fr) (q := q) (k := j) (by omega)
        obtain ⟨z, hz⟩ : ∃ z, z = fr[j]'(by omega) := ⟨_, rfl⟩
        rw [← hz] at hcj hdr
        have hz256 := z.toNat_lt
        obtain ⟨V, hV⟩ : ∃ V, V = valN ((bare fr q).drop (j + 1)) := ⟨_, rfl⟩
        rw [← hV] at hdr hvb ⊢
        have HD := Lib.hid hdr
        have hne : ((j : Int) == (fr.length : Int)) = false := by simp only [beq_eq_false_iff_ne, ne_eq]; omega
        clear hdr hV hz
        go_wp2_with fail
        go_round
        case rel => exact ⟨j, by omega, rfl, by rw [HD.out]; first | rfl | (congr 1; omega)⟩
        case measure => simp [intOf]
    · obtain rfl : k = 0 := by omega
      rw [List.drop_zero]
      have hvl := valN_last_lt (fr := fr) (x := UInt8.ofNat (q.toNat % 128)) hl (by rw [to_lo]; omega)
      obtain ⟨V, hV⟩ : ∃ V, V = valN (bare fr q) := ⟨_, rfl⟩
      have hvl2 : V < 9223372036854775808 := by rw [hV]; exact hvl
      have hfew : fewest (fr ++ [q]) = !(decide (q.toNat % 128 = 0) && (decide (fr.length ≤ 0) || decide ((fr.getLast?.getD 0).toNat < 128))) := by
        unfold fewest
        rw [List.getLast?_concat, List.dropLast_concat, List.length_append, List.length_cons, List.length_nil]
        simp
      have hvs : valS (fr ++ [q]) = if 128 ≤ q.toNat then -(V : Int) else V := by
        split
        · rw [valS_hi ‹_›, hV]; rfl
        · rw [valS_lo (by omega), hV]; unfold bare; rw [lo128 (by omega)]
      rw [← hV]
      clear hV hvl
      have HFW := Lib.hid hfew
      have HVS := Lib.hid hvs
      clear hfew hvs
      have yes : fewest (fr ++ [q]) = true → Hid (r1 = (if 128 ≤ q.toNat then -(V : Int) else V) ∧ r2 = 0) := fun h => Lib.hid (by
        obtain ⟨h1, h2⟩ := HR.out
        rw [h1, h2, if_pos h, if_pos h, HVS.out]
        exact ⟨rfl, rfl⟩)
      have no : fewest (fr ++ [q]) = false → Hid (r1 = 0 ∧ r2 = 3) := fun h => Lib.hid (by
        obtain ⟨h1, h2⟩ := HR.out
        rw [h1, h2, h]
        exact ⟨rfl, rfl⟩)
      have YES := Lib.hid yes
      have NO := Lib.hid no
      clear HR HVS yes no
      by_cases hy : q.toNat % 128 = 0
      · have hy2 : ((q.toNat : Int) % 128 == 0) = true := by simp only [beq_iff_eq]; omega
        rw [decide_eq_true hy, Bool.true_and] at HFW
        rcases snoc_cases fr with rfl | ⟨gr, z, rfl⟩
        · have hn := NO.out (by rw [HFW.out]; rfl)
          have hcell0 : w.cell? ⟨b, o, none⟩ = some (.int .u8 (q.toNat : Int)) := hcell
          rw [List.length_nil, Nat.zero_add] at g1 ⊢
          clear YES NO HFW HC hcell
          go_wp2_with fail
          go_ret2
          exact ⟨by rw [hn.out.1, hn.out.2]; rfl, rfl⟩
        · have hz := HC.out gr.length (by simp)
          have e : (gr ++ [z])[gr.length]'(by simp) = z := by simp
          rw [e] at hz
          clear e
          rw [show decide ((gr ++ [z]).length ≤ 0) = false by simp, Bool.false_or, List.getLast?_concat] at HFW
          have hne : (((gr.length : Int) + 1 + 1) == 1) = false := by simp only [beq_eq_false_iff_ne, ne_eq]; omega
          rw [List.length_append, List.length_cons, List.length_nil, Nat.zero_add] at hcell hl g1 hm0 ⊢
          by_cases hz8 : z.toNat < 128
          · have hn := NO.out (by rw [HFW.out]; simpa using hz8)
            have hzi : decide ((z.toNat : Int) < 128) = true := decide_eq_true (by omega)
            clear YES NO HFW HC
            go_wp2_with fail
            go_ret2
            exact ⟨by rw [hn.out.1, hn.out.2]; rfl, rfl⟩
          · have hn := YES.out (by rw [HFW.out]; simpa using hz8)
            have hzi : decide ((z.toNat : Int) < 128) = false := decide_eq_false (by omega)
            clear YES NO HFW HC
            by_cases hq : 128 ≤ q.toNat
            · rw [if_pos hq] at hn
              go_wp2_with fail
              go_ret2
              exact ⟨by rw [hn.out.1, hn.out.2]; rfl, rfl⟩
            · rw [if_neg hq] at hn
              go_wp2_with fail
              go_ret2
              exact ⟨by rw [hn.out.1, hn.out.2]; rfl, rfl⟩
      · have hy2 : ((q.toNat : Int) % 128 == 0) = false := by simp only [beq_eq_false_iff_ne, ne_eq]; omega
        have hn := YES.out (by rw [HFW.out, decide_eq_false hy]; rfl)
        clear YES NO HFW HC
        by_cases hq : 128 ≤ q.toNat
        · rw [if_pos hq] at hn
          go_wp2_with fail
          go_ret2
          exact ⟨by rw [hn.out.1, hn.out.2]; rfl, rfl⟩
        · rw [if_neg hq] at hn
          go_wp2_with fail
          go_ret2
          exact ⟨by rw [hn.out.1, hn.out.2]; rfl, rfl⟩

theorem rfrom_any (B : Nat) (x : Value) (xs : List UInt8) (most : Int) (hm1 : most ≤ 9223372036854775807) (w : World) (hx : Byt w B x xs) :
    Calls Try.prog 25 #[x, .int .i64 most] w fun e w' => e = .returned (.tuple #[.int .i64 (fromB xs most).1, .int .i64 (fromB xs most).2]) ∧ w = w' := by
  by_cases hl : most < xs.length ∨ 8 < xs.length
  · have hf : fromB xs most = (0, 2) := by unfold fromB; rw [if_pos hl]
    rw [hf]
    exact rfrom_size B x xs most w hx hl
  · rcases snoc_cases xs with rfl | ⟨fr, q, rfl⟩
    · have hf : fromB [] most = (0, 0) := by unfold fromB; rw [if_neg hl]; rfl
      rw [hf]
      exact rfrom_nil B x most (by simp at hl; omega) w hx
    · have hf : fromB (fr ++ [q]) most = (if fewest (fr ++ [q]) then valS (fr ++ [q]) else 0, if fewest (fr ++ [q]) then 0 else 3) := by
        unfold fromB
        rw [if_neg hl, if_neg (by simp)]
        split <;> rfl
      rw [hf]
      obtain ⟨A, c, e, h1, h2, h3, h4⟩ := hx
      obtain ⟨b, o, e1, hb, hc⟩ := h4 (by simp)
      have hx : Byt w B x (fr ++ [q]) := ⟨A, c, e, h1, h2, h3, h4⟩
      rw [e1] at e
      rw [e] at hx ⊢
      rw [List.length_append, List.length_cons, List.length_nil, Nat.zero_add] at hx hl ⊢
      exact rfrom_num B b o c fr q (by omega) most (by omega) hm1 w hx
end Go.Proofs.Ytpfobbhoahnebaa

/-
  Operations of a script: what bytes are parsed as, and how a list of them lies in memory. Conditions: sizes within the reach.
-/
namespace Go.Proofs.Ytpfobbhoahnebaa
open Go.RowKit

/-- How many bytes stand behind a code, the error, the bytes left. -/
def sizeD (c : UInt8) (xs : List UInt8) : Int × Int × List UInt8 :=
  if c.toNat < 76 then ((c.toNat : Int), 0, xs) else if c.toNat = 76 then numR 1 0 xs else if c.toNat = 77 then numR 2 0 xs
  else if c.toNat = 78 then (min (numR 4 0 xs).1 2147483647, (numR 4 0 xs).2.1, (numR 4 0 xs).2.2) else (0, 0, xs)
/-- The bytes behind a code, the error, the bytes left. -/
def opR (c : UInt8) (xs : List UInt8) : List UInt8 × Int × List UInt8 := rawR (sizeD c xs).1 (sizeD c xs).2.1 (sizeD c xs).2.2
theorem numR_two (n : Nat) (xs : List UInt8) : (numR n 0 xs).2.1 = 0 ∨ (numR n 0 xs).2.1 = 4 := by unfold numR; rw [if_neg (by decide)]; split; exact .inr rfl; exact .inl rfl
theorem numR_rest (n : Nat) (xs : List UInt8) : (numR n 0 xs).2.2.length ≤ xs.length := by unfold numR; rw [if_neg (by decide)]; split; exact Nat.le_refl _; rw [List.length_drop]; exact Nat.sub_le _ _
theorem numR_bd (n : Nat) (xs : List UInt8) : 0 ≤ (numR n 0 xs).1 ∧ (numR n 0 xs).1 < 256 ^ n := by
  unfold numR
  rw [if_neg (by decide)]
  split
  · exact ⟨by simp, by show (0 : Int) < 256 ^ n; exact Int.pow_pos (by decide)⟩
  · have h := val_bd (xs.take n)
    rw [List.length_take, Nat.min_eq_left (by omega)] at h
    exact h
theorem numR_one (c : UInt8) (cs : List UInt8) : numR 1 0 (c :: cs) = ((c.toNat : Int), 0, cs) := by
  unfold numR
  rw [if_neg (by decide), if_neg (by simp)]
  simp [val]
theorem sizeD_two (c : UInt8) (xs : List UInt8) : (sizeD c xs).2.1 = 0 ∨ (sizeD c xs).2.1 = 4 := by
  unfold sizeD
  split
  · exact .inl rfl
  split
  · exact numR_two _ _
  split
  · exact numR_two _ _
  split
  · exact numR_two 4 xs
  · exact .inl rfl
theorem sizeD_rest (c : UInt8) (xs : List UInt8) : (sizeD c xs).2.2.length ≤ xs.length := by
  unfold sizeD
  split
  · exact Nat.le_refl _
  split
  · exact numR_rest _ _
  split
  · exact numR_rest _ _
  split
  · exact numR_rest 4 xs
  · exact Nat.le_refl _
theorem sizeD_bd (c : UInt8) (xs : List UInt8) : 0 ≤ (sizeD c xs).1 ∧ (sizeD c xs).1 ≤ 2147483647 := by
  have hc := c.toNat_lt
  unfold sizeD
  split
  · dsimp only; omega
  split
  · have := numR_bd 1 xs; omega
  split
  · have := numR_bd 2 xs; omega
  split
  · have := numR_bd 4 xs
    dsimp only
    omega
  · dsimp only; omega
theorem opR_two (c : UInt8) (xs : List UInt8) : (opR c xs).2.1 = 0 ∨ (opR c xs).2.1 = 4 := by
  unfold opR rawR
  rcases sizeD_two c xs with h | h
  · rw [h, if_neg (by decide)]; split; exact .inr rfl; exact .inl rfl
  · rw [h, if_pos (by decide)]; exact .inr rfl
theorem opR_rest (c : UInt8) (xs : List UInt8) : (opR c xs).2.2.length ≤ xs.length := by
  have h1 := sizeD_rest c xs
  unfold opR rawR
  split
  · exact h1
  split
  · exact h1
  · exact Nat.le_trans (by rw [List.length_drop]; exact Nat.sub_le _ _) h1
theorem opR_data (c : UInt8) (xs : List UInt8) : (opR c xs).1.length ≤ xs.length := by
  have h1 := sizeD_rest c xs
  unfold opR rawR
  split
  · simp
  split
  · simp
  · exact Nat.le_trans (List.length_take_le' _ _) h1

/-- What bytes are parsed as: codes, each with the bytes behind it; none: bytes are wanting. -/
def parseP : List UInt8 → Option (List (UInt8 × List UInt8))
  | [] => some []
  | c :: xs => if (opR c xs).2.1 = 0 then (parseP (opR c xs).2.2).map ((c, (opR c xs).1) :: ·) else none
termination_by xs => xs.length
decreasing_by have := opR_rest c xs; simp; omega
theorem parseP_nil : parseP [] = some [] := by unfold parseP; rfl
theorem parseP_ok {c : UInt8} {xs : List UInt8} (h : (opR c xs).2.1 = 0) : parseP (c :: xs) = (parseP (opR c xs).2.2).map ((c, (opR c xs).1) :: ·) := by rw [parseP, if_pos h]
theorem parseP_bad {c : UInt8} {xs : List UInt8} (h : (opR c xs).2.1 ≠ 0) : parseP (c :: xs) = none := by rw [parseP, if_neg h]

/-- A code, the slice value of its bytes, these bytes. -/
structure Piece where
  code : UInt8
  at_ : Value
  data : List UInt8
def Piece.cells (p : Piece) : List Value := [bv p.code, p.at_]
def Piece.pair (p : Piece) : UInt8 × List UInt8 := (p.code, p.data)
def cellsOf (L : List Piece) : List Value := L.flatMap Piece.cells
theorem cellsOf_length (L : List Piece) : (cellsOf L).length = L.length * 2 := by
  induction L with
  | nil => rfl
  | cons p L ih => unfold cellsOf at ih ⊢; rw [List.flatMap_cons, List.length_append, ih]; simp [Piece.cells]; omega
theorem cellsOf_snoc (L : List Piece) (p : Piece) : cellsOf (L ++ [p]) = cellsOf L ++ [bv p.code, p.at_] := by simp [cellsOf, Piece.cells]
theorem cellsOf_at {L : List Piece} {i : Nat} {p : Piece} (h : L[i]? = some p) : (cellsOf L)[i * 2]? = some (bv p.code) ∧ (cellsOf L)[i * 2 + 1]? = some p.at_ := by
  induction L generalizing i with
  | nil => simp at h
  | cons q L ih =>
    unfold cellsOf at ih ⊢
    rw [List.flatMap_cons]
    cases i with
    | zero =>
      have e : q = p := by simpa using h
      subst e
      exact ⟨rfl, rfl⟩
    | succ i =>
      have h2 := ih (i := i) (by simpa using h)
      have e1 : (i + 1) * 2 = (i * 2) + 1 + 1 := by omega
      rw [e1]
      exact h2

/-- The slice value v holds these operations in blocks of its own from base on, each one's bytes in a block apart. -/
def OpsAt (w : World) (base : Nat) (v : Value) (L : List Piece) : Prop :=
  w.ownsRow base 37 2 v L.length (cellsOf L) ∧ (∀ p ∈ L, OwnB w base p.at_ p.data) ∧ L.Pairwise (fun p q => ∀ g, p.at_.ownBlock = some g → q.at_.ownBlock ≠ some g)

theorem own_base {w : World} {b b' : Nat} {e : TypeId} {size n : Nat} {v : Value} {xs : List Value} (h : w.ownsRow b e size v n xs) (hb : b' ≤ b) : w.ownsRow b' e size v n xs := by
  refine ⟨h.1, ?_⟩
  rcases h.2 with h | ⟨g, cap, cur, hv, hg, r⟩
  · exact .inl h
  · exact .inr ⟨g, cap, cur, hv, Nat.le_trans hb hg, r⟩
theorem OpsAt.base {w : World} {b b' : Nat} {v : Value} {L : List Piece} (h : OpsAt w b v L) (hb : b' ≤ b) : OpsAt w b' v L :=
  ⟨own_base h.1 hb, fun p hp => own_base (h.2.1 p hp) hb, h.2.2⟩
theorem OpsAt.nil (w : World) (base : Nat) : OpsAt w base (.slice none 0 0) [] := ⟨World.ownsRow_nil _ _ _ _, (fun _ h => by cases h), List.Pairwise.nil⟩
theorem OpsAt.form {w : World} {base : Nat} {v : Value} {L : List Piece} (h : OpsAt w base v L) : ∃ A c, v = .slice A L.length c := own_form h.1
theorem OpsAt.turns {S : Nat → Prop} {w w' : World} {base : Nat} {v : Value} {L : List Piece} (h : OpsAt w base v L) (ht : Turns S w w') (hv : ∀ k, v.ownBlock = some k → ¬ S k) (hL : ∀ p ∈ L, ∀ k, p.at_.ownBlock = some k → ¬ S k) : OpsAt w' base v L :=
  ⟨own_turns h.1 ht hv, fun p hp => own_turns (h.2.1 p hp) ht (hL p hp), h.2.2⟩
theorem OpsAt.turns_low {S : Nat → Prop} {w w' : World} {base : Nat} {v : Value} {L : List Piece} (h : OpsAt w base v L) (ht : Turns S w w') (hS : ∀ k, base ≤ k → ¬ S k) : OpsAt w' base v L :=
  h.turns ht (fun k hk => hS k (h.1.lt k hk).1) (fun p hp k hk => hS k (World.ownsRow.lt (h.2.1 p hp) k hk).1)
theorem OpsAt.below {w w' : World} {base : Nat} {v : Value} {L : List Piece} (h : OpsAt w base v L) (hb : Below w.heap.size w w') : OpsAt w' base v L :=
  h.turns (Turns.of_below (S := fun _ => False) hb) (fun _ _ h => h) (fun _ _ _ _ h => h)
theorem OpsAt.alloc {w : World} {base : Nat} {v : Value} {L : List Piece} (h : OpsAt w base v L) (o : Obj) : OpsAt (w.alloc o) base v L := h.below ((Below.refl _ _).alloc (Nat.le_refl _) o)
theorem own_types {w : World} {b b' : Nat} {e e' : TypeId} {s s' n n' : Nat} {v v' : Value} {xs xs' : List Value} (h : w.ownsRow b e s v n xs) (h' : w.ownsRow b' e' s' v' n' xs') (hne : e ≠ e') {g : Nat} (hg : v.ownBlock = some g) : v'.ownBlock ≠ some g := by
  rcases h.2 with ⟨rfl, _⟩ | ⟨g1, cap, cur, rfl, _, hh, _⟩
  · simp [Value.ownBlock] at hg
  · have : g1 = g := by simpa [Value.ownBlock] using hg
    subst this
    rcases h'.2 with ⟨rfl, _⟩ | ⟨g', cap', cur', rfl, _, hh', _⟩
    · simp [Value.ownBlock]
    · intro he
      have e1 : g' = g1 := by simpa [Value.ownBlock] using he
      subst e1
      rw [hh] at hh'
      injection hh' with hh'
      injection hh' with _ ht
      exact hne ht
/-- One more: the list's row has grown; its bytes lie apart from all that was there. -/
theorem OpsAt.snoc {w w' : World} {base n : Nat} {v v' : Value} {L : List Piece} {p : Piece} (h : OpsAt w base v L) (hd : OwnB w base p.at_ p.data) (hn : ∀ q ∈ L, ∀ g, q.at_.ownBlock = some g → p.at_.ownBlock ≠ some g)
    (hown : w'.ownsRow base 37 2 v' n (cellsOf L ++ [bv p.code, p.at_])) (he : n = L.length + 1) (hg : w.grownBy w' v.ownBlock) : OpsAt w' base v' (L ++ [p]) := by
  have ht : Turns (fun k => v.ownBlock = some k) w w' := (Turns.refl _ w).grown hg (fun k hk _ => hk)
  subst he
  refine ⟨by rw [cellsOf_snoc, List.length_append]; exact hown, fun q hq => ?_, ?_⟩
  · rcases List.mem_append.1 hq with hq | hq
    · exact own_turns (h.2.1 q hq) ht (fun k hk hv => own_types h.1 (h.2.1 q hq) (by decide) hv hk)
    · obtain rfl : q = p := by simpa using hq
      exact own_turns hd ht (fun k hk hv => own_types h.1 hd (by decide) hv hk)
  · rw [List.pairwise_append]
    refine ⟨h.2.2, by simp, fun a ha b hb => ?_⟩
    obtain rfl : b = p := by simpa using hb
    exact hn a ha

theorem info_op : (Try.prog.info? 37).map (fun i => (i.zero, i.size, i.bytes)) = some (some (.agg #[.int .u8 0, .slice none 0 0]), 2, 32) := by kernel_rfl
theorem slice_op : Try.prog.underlying 27 = some (.slice 37) := Try.underlying27

/-- append of one operation. -/
theorem wpList_append_op {w : World} {ops : Array Oper} {rest : List Oper} {o : Oper} {a : Act} {Q : Exit → Act → World → Prop} (hgd : o.guard = none) (s x : Operand)
    (ho : o.op = .call { callee := .builtin .append, args := #[s, x], argTypes := #[27, 27] })
    (base : Nat) (v : Value) (n : Nat) (xs : List Value) (hs : a.eval s = v) (hown : w.ownsRow base 37 2 v n xs)
    (g : Nat) (u0 u1 : Value) (hx : a.eval x = .slice (some ⟨g, 0, none⟩) 1 1) (h0 : w.cell? ⟨g, 0, none⟩ = some u0) (h1 : w.cell? ⟨g, 1, none⟩ = some u1) (k0 : u0.oneCell' = true) (k1 : u1.oneCell' = true)
    (hb : (n + 1) * 32 ≤ 140737488355328) (hbase : base ≤ w.heap.size)
    (h : ∀ v' w', w'.ownsRow base 37 2 v' (n + 1) (xs ++ [u0, u1]) → w.grownBy w' v.ownBlock → wpList Try.prog ops Q rest (a.put o.dst v') w') :
    wpList Try.prog ops Q (o :: rest) a w := by
  obtain ⟨i, hi, hz, hsz, hby⟩ := info_parts info_op
  refine wpList_plain hgd fun K hK => ?_
  obtain ⟨v', w', hrun, h2, h3, _, _⟩ := run_append_own_at (P := Try.prog) w base 27 o.type 37 i _ 2 32 slice_op hi hz hsz hby rfl (by decide) v n xs hown ⟨g, 0, none⟩ 1 1 [u0, u1] rfl
    (by
      intro j u hu
      match j, hu with
      | 0, hu => exact Option.some.inj hu ▸ h0
      | 1, hu => exact Option.some.inj hu ▸ h1)
    (by intro u hu; simp at hu; rcases hu with rfl | rfl; exact k0; exact k1) (by unfold maxLen; omega) hb hbase
  unfold Oper.wp execOp
  simp only [ho, resolve, invoke, builtin, Sem.run_bind, Sem.run_pure, Result.andThen_ok, List.map_toArray, List.map_cons, List.map_nil, hs, hx, hrun]
  exact hK _ _ (h v' w' h2 h3)
end Go.Proofs.Ytpfobbhoahnebaa

/-
  script.dataSize and script.Parse. Conditions: sizes within the reach.
-/
namespace Go.Proofs.Ytpfobbhoahnebaa
open Go.RowKit

set_option maxHeartbeats 1600000 in
theorem dataSize_any (r B : Nat) (v : Value) (c : UInt8) (xs : List UInt8) (w : World) (hc : Cu w r B v 0 xs) :
    Calls Try.prog 45 #[.pointer (some ⟨r, 0, none⟩), .int .u8 (c.toNat : Int)] w (Did w r B (.int .i64 (sizeD c xs).1) (sizeD c xs).2.1 (sizeD c xs).2.2) := by
  have hc256 := c.toNat_lt
  have did0 : ∀ n : Int, Did w r B (.int .i64 n) 0 xs (.returned (.int .i64 n)) w := fun n => ⟨rfl, v, hc, Turns.refl _ _⟩
  by_cases h1 : c.toNat < 76
  · have hs : sizeD c xs = ((c.toNat : Int), 0, xs) := by unfold sizeD; rw [if_pos h1]
    rw [hs]
    have HD := Lib.hid did0
    clear did0 hs hc
    go_enter Try.func45, Try.ntmps45
    go_wp2_with fail
    go_ret
    exact HD.out _
  by_cases h2 : c.toNat = 76
  · have hs : sizeD c xs = numR 1 0 xs := by unfold sizeD; rw [if_neg h1, if_pos h2]
    have hbd := numR_bd 1 xs
    have HU := Lib.hid (ru8_any r B v 0 xs w hc)
    rw [hs]
    obtain ⟨⟨n, k, ys⟩, hp⟩ : ∃ p, p = numR 1 0 xs := ⟨_, rfl⟩
    rw [← hp] at HU hbd ⊢
    have e : ((c.toNat : Int) == 76) = true := by simp only [beq_iff_eq]; omega
    clear did0 hs hc hp h2
    dsimp only at HU hbd ⊢
    go_enter Try.func45, Try.ntmps45
    go_wp2_with fail
    refine HU.out.mono ?_
    rintro e w1 ⟨rfl, hd⟩
    go_wp2_with fail
    go_ret
    exact ⟨rfl, hd⟩
  by_cases h3 : c.toNat = 77
  · have hs : sizeD c xs = numR 2 0 xs := by unfold sizeD; rw [if_neg h1, if_neg h2, if_pos h3]
    have hbd := numR_bd 2 xs
    have HU := Lib.hid (ru16_any r B v 0 xs w hc)
    rw [hs]
    obtain ⟨⟨n, k, ys⟩, hp⟩ : ∃ p, p = numR 2 0 xs := ⟨_, rfl⟩
    rw [← hp] at HU hbd ⊢
    have e : ((c.toNat : Int) == 76) = false := by simp only [beq_eq_false_iff_ne, ne_eq]; omega
    have e2 : ((c.toNat : Int) == 77) = true := by simp only [beq_iff_eq]; omega
    clear did0 hs hc hp h2 h3
    dsimp only at HU hbd ⊢
    go_enter Try.func45, Try.ntmps45
    go_wp2_with fail
    refine HU.out.mono ?_
    rintro e w1 ⟨rfl, hd⟩
    go_wp2_with fail
    go_ret
    exact ⟨rfl, hd⟩
  by_cases h4 : c.toNat = 78
  · have hs : sizeD c xs = (min (numR 4 0 xs).1 2147483647, (numR 4 0 xs).2.1, (numR 4 0 xs).2.2) := by unfold sizeD; rw [if_neg h1, if_neg h2, if_neg h3, if_pos h4]
    have hbd := numR_bd 4 xs
    have HU := Lib.hid (ru32_any r B v 0 xs w hc)
    rw [hs]
    obtain ⟨⟨n, k, ys⟩, hp⟩ : ∃ p, p = numR 4 0 xs := ⟨_, rfl⟩
    rw [← hp] at HU hbd ⊢
    have e : ((c.toNat : Int) == 76) = false := by simp only [beq_eq_false_iff_ne, ne_eq]; omega
    have e2 : ((c.toNat : Int) == 77) = false := by simp only [beq_eq_false_iff_ne, ne_eq]; omega
    have e3 : ((c.toNat : Int) == 78) = true := by simp only [beq_iff_eq]; omega
    clear did0 hs hc hp h2 h3 h4
    dsimp only at HU hbd ⊢
    by_cases hn : n ≤ 2147483647
    · rw [Int.min_eq_left hn]
      go_enter Try.func45, Try.ntmps45
      go_wp2_with fail
      refine HU.out.mono ?_
      rintro e w1 ⟨rfl, hd⟩
      go_wp2_with fail
      go_ret
      exact ⟨rfl, hd⟩
    · rw [Int.min_eq_right (by omega)]
      go_enter Try.func45, Try.ntmps45
      go_wp2_with fail
      refine HU.out.mono ?_
      rintro e w1 ⟨rfl, hd⟩
      go_wp2_with fail
      go_ret
      exact ⟨rfl, hd⟩
  · have hs : sizeD c xs = (0, 0, xs) := by unfold sizeD; rw [if_neg h1, if_neg h2, if_neg h3, if_neg h4]
    have e : ((c.toNat : Int) == 76) = false := by simp only [beq_eq_false_iff_ne, ne_eq]; omega
    have e2 : ((c.toNat : Int) == 77) = false := by simp only [beq_eq_false_iff_ne, ne_eq]; omega
    have e3 : ((c.toNat : Int) == 78) = false := by simp only [beq_eq_false_iff_ne, ne_eq]; omega
    rw [hs]
    have HD := Lib.hid did0
    clear did0 hs hc h2 h3 h4
    go_enter Try.func45, Try.ntmps45
    go_wp2_with fail
    go_ret
    exact HD.out _

/-- What Parse answers: a list of operations of its own, or the error. -/
def Parsed (w : World) (xs : List UInt8) (e : Ending) (w' : World) : Prop :=
  match parseP xs with
  | none => e = .returned (.tuple #[.slice none 0 0, .int .i64 4]) ∧ Below w.heap.size w w'
  | some ops => ∃ A c L, e = .returned (.tuple #[.slice A ops.length c, .int .i64 0]) ∧ L.map Piece.pair = ops ∧ OpsAt w' w.heap.size (.slice A ops.length c) L ∧ Below w.heap.size w w'
theorem parsed_none {w w' : World} {xs : List UInt8} (h : parseP xs = none) (hb : Below w.heap.size w w') : Parsed w xs (.returned (.tuple #[.slice none 0 0, .int .i64 4])) w' := by unfold Parsed; rw [h]; exact ⟨rfl, hb⟩
theorem parsed_some {w w' : World} {xs : List UInt8} {v : Value} {L : List Piece} (h : parseP xs = some (L.map Piece.pair)) (ho : OpsAt w' w.heap.size v L) (hb : Below w.heap.size w w') : Parsed w xs (.returned (.tuple #[v, .int .i64 0])) w' := by
  unfold Parsed
  rw [h]
  obtain ⟨A, c, rfl⟩ := ho.form
  exact ⟨A, c, L, by rw [List.length_map], rfl, by rw [List.length_map]; exact ho, hb⟩

/-- What the loop keeps: the operations so far, the reader at the rest. -/
structure PWalk (w : World) (r b1 : Nat) (all : List UInt8) (v : Value) (L : List Piece) (rest : List UInt8) (wr : World) : Prop where
  ops : OpsAt wr b1 v L
  rd : ∃ rv, Cu wr r r rv 0 rest
  eq : parseP all = (parseP rest).map (L.map Piece.pair ++ ·)
  bel : Below w.heap.size w wr
  size : b1 ≤ wr.heap.size
  len : L.length + rest.length ≤ all.length

set_option maxRecDepth 100000 in
set_option maxHeartbeats 3200000 in
theorem parse_any (B : Nat) (x : Value) (xs : List UInt8) (w : World) (hx : Byt w B x xs) (hl : xs.length ≤ 60000000) :
    Calls Try.prog 12 #[x] w (Parsed w xs) := by
  have HO := Lib.hid (open_any B x xs w hx hl)
  obtain ⟨A, c, rfl⟩ := hx.form
  clear hx
  go_enter Try.func12, Try.ntmps12
  go_wp2_with fail
  refine HO.out.mono ?_
  rintro e w1 ⟨r, rv, rfl, hcu, hr, hb1⟩
  have hrl := hcu.lt
  go_wp2_with fail
  go_loopg [4] xs.length (fun k s wr => ∃ (v : Value) (L : List Piece) (rest : List UInt8), v = s ∧ rest.length ≤ k ∧ Hid (PWalk w r w1.heap.size xs v L rest wr))
  case atStart => exact ⟨_, [], xs, rfl, Nat.le_refl _, Lib.hid ⟨OpsAt.nil _ _, ⟨rv, hcu⟩, by simp, hb1, Nat.le_refl _, by simp⟩⟩
  case round =>
    obtain ⟨v, L, rest, hv, hk, hp⟩ := hrel
    subst hv
    obtain ⟨rv2, hcu2⟩ := hp.out.rd
    have HL := Lib.hid (rleft_any r r rv2 0 rest wr hcu2)
    cases rest with
    | nil =>
      clear hcu2
      go_wp2_with fail
      refine HL.out.mono ?_
      rintro e w2 ⟨rfl, rfl⟩
      go_wp2_with fail
      go_ret2
      refine parsed_some ?_ (hp.out.ops.base (Nat.le_trans hb1.size (Nat.le_refl _))) hp.out.bel
      rw [hp.out.eq, parseP_nil]
      simp
    | cons c rest =>
      have h8 := ru8_any r r rv2 0 (c :: rest) wr hcu2
      rw [numR_one] at h8
      have H8 := Lib.hid h8
      clear hcu2 h8
      go_wp2_with fail
      refine HL.out.mono ?_
      rintro e w2 ⟨rfl, rfl⟩
      go_wp2_with fail
      refine H8.out.mono ?_
      rintro e w2 ⟨rfl, rv3, hcu3, ht2⟩
      have HD := Lib.hid (dataSize_any r r rv3 c rest w2 hcu3)
      have hT2 := Lib.hid ht2
      clear hcu3 ht2 H8 HL
      obtain ⟨⟨n, k2, ys⟩, hn⟩ : ∃ p, p = sizeD c rest := ⟨_, rfl⟩
      have hopr : opR c rest = rawR n k2 ys := by unfold opR; rw [← hn]
      have hsr := sizeD_rest c rest
      have hsb := sizeD_bd c rest
      rw [← hn] at HD hsr hsb
      dsimp only at HD hsr hsb
      clear hn
      have HOP := Lib.hid hopr
      clear hopr
      go_wp2_with fail
      refine HD.out.mono ?_
      rintro e w3 ⟨rfl, rv4, hcu4, ht3⟩
      have hlen := hp.out.len
      have HR := Lib.hid (rraw_any r r rv4 k2 n ys w3 (by simp at hlen; omega) hcu4)
      have hT3 := Lib.hid ht3
      clear hcu4 ht3 HD
      have o2 := opR_two c rest
      have o3 := opR_rest c rest
      have o4 := opR_data c rest
      rw [HOP.out] at o2 o3 o4
      obtain ⟨⟨zs, k5, ws⟩, hz⟩ : ∃ p, p = rawR n k2 ys := ⟨_, rfl⟩
      rw [← hz] at HR o2 o3 o4 HOP
      dsimp only at HR o2 o3 o4
      clear hz
      go_wp2_with fail
      refine HR.out.mono ?_
      rintro e w4 ⟨u, rfl, A4, c4, rfl, hown4, rv5, hcu5, ht4⟩
      have hb1s := hp.out.size
      have T24 : Turns (fun i => i = r) wr w4 := (hT2.out.trans hT3.out (fun _ _ h => h)).trans ht4 (fun _ _ h => h)
      have s3 : wr.heap.size ≤ w3.heap.size := (hT2.out.trans hT3.out (fun _ _ h => h)).size
      have s4 := ht4.size
      have low : ∀ k, w1.heap.size ≤ k → ¬ k = r := fun k hk e => by omega
      have ops4 : OpsAt w4 w1.heap.size v L := hp.out.ops.turns_low T24 low
      have own4 : OwnB w4 w1.heap.size (.slice A4 zs.length c4) zs := own_base hown4 (by omega)
      have hn : ∀ q ∈ L, ∀ g, q.at_.ownBlock = some g → (Value.slice A4 zs.length c4).ownBlock ≠ some g := fun q hq g hg he => by
        have h1 := (World.ownsRow.lt (hp.out.ops.2.1 q hq) g hg).2
        have h2 := (World.ownsRow.lt hown4 g he).1
        omega
      obtain ⟨W5, hW5⟩ : ∃ W5, W5 = w4.alloc (.cells #[.int .u8 (c.toNat : Int), .slice A4 zs.length c4] 37) := ⟨_, rfl⟩
      have c0 : W5.cell? ⟨w4.heap.size, 0, none⟩ = some (.int .u8 (c.toNat : Int)) := by rw [hW5]; exact cell_of_row _ _ 0 _ _ _ (heap_alloc_new w4 _)
      have c1 : W5.cell? ⟨w4.heap.size, 1, none⟩ = some (.slice A4 zs.length c4) := by rw [hW5]; exact cell_of_row _ _ 1 _ _ _ (heap_alloc_new w4 _)
      have ops5 : OpsAt W5 w1.heap.size v L := by rw [hW5]; exact ops4.alloc _
      have own5 : OwnB W5 w1.heap.size (.slice A4 zs.length c4) zs := by rw [hW5]; exact World.ownsRow.alloc own4 _
      have cu5 : Cu W5 r r rv5 k5 ws := by rw [hW5]; exact hcu5.alloc _
      have s5 : W5.heap.size = w4.heap.size + 1 := by rw [hW5]; simp
      have bel5 : Below w.heap.size w W5 := by
        rw [hW5]
        have h1 : Below w.heap.size wr w4 := T24.below_of (by have := hp.out.bel.size; omega) (fun i hi e => by omega)
        exact (hp.out.bel.trans h1).alloc (by have := (hp.out.bel.trans h1).size; omega) _
      have hll : (L.length + 1) * 32 ≤ 140737488355328 := by simp at hlen; omega
      have OPS := Lib.hid ops5
      have OWN := Lib.hid own5
      have CU := Lib.hid cu5
      have BEL := Lib.hid bel5
      have HNN := Lib.hid hn
      have HSZ := Lib.hid (And.intro hb1s (And.intro s3 (And.intro s4 s5)))
      clear ops5 own5 cu5 bel5 hn ops4 own4 T24 ht4 hcu5 hown4 hb1s s3 s4 s5 hT2 hT3 low HR
      go_wp2_with (at_builtin; rw [← hW5]; refine wpList_append_op rfl (.tmp 14) (.tmp 22) rfl w1.heap.size _ L.length (cellsOf L) rfl OPS.out.1 w4.heap.size (.int .u8 (c.toNat : Int)) (.slice A4 zs.length c4) rfl c0 c1 rfl rfl hll (by have := HSZ.out; omega) ?_; intro v5 w5 hown5 hg5)
      clear c0 c1 hW5
      have hT5 : Turns (fun k => v.ownBlock = some k) W5 w5 := (Turns.refl _ W5).grown hg5 (fun k hk _ => hk)
      have cu6 : Cu w5 r r rv5 k5 ws := CU.out.turns hT5 (fun e => by have := (OPS.out.1.lt r e).1; omega) (fun i hi e => by have := (OPS.out.1.lt i e).1; omega)
      have ops6 := OPS.out.snoc (p := ⟨c, .slice A4 zs.length c4, zs⟩) OWN.out HNN.out hown5 rfl hg5
      have bel6 : Below w.heap.size w w5 := BEL.out.trans (hT5.below_of (by have := HSZ.out; have := hp.out.bel.size; omega) (fun i hi e => by have := (OPS.out.1.lt i e).1; have := hb1.size; omega))
      have hE := Lib.hid (rerr_any r r rv5 k5 ws w5 cu6)
      have CU6 := Lib.hid cu6
      have OPS6 := Lib.hid ops6
      have BEL6 := Lib.hid bel6
      have HS6 := Lib.hid hT5.size
      clear cu6 ops6 bel6 hT5 hown5 hg5 OPS OWN CU BEL HNN
      rcases o2 with rfl | rfl
      · have hq : parseP (c :: rest) = (parseP ws).map ((c, zs) :: ·) := by
          have h0 : (opR c rest).2.1 = 0 := by rw [HOP.out]
          rw [parseP_ok h0, HOP.out]
        have HQ := Lib.hid hq
        clear hq HOP
        go_wp2_with fail
        refine hE.out.mono ?_
        rintro e w6 ⟨rfl, rfl⟩
        go_wp2_with fail
        go_roundg rest.length
        case measure => simp at hk; omega
        case rel =>
          refine ⟨_, L ++ [⟨c, .slice A4 zs.length c4, zs⟩], ws, rfl, o3, Lib.hid ⟨OPS6.out, ⟨rv5, CU6.out⟩, ?_, BEL6.out, by have := HSZ.out; have := HS6.out; omega, by simp at hlen ⊢; omega⟩⟩
          rw [hp.out.eq, HQ.out, Option.map_map]
          congr 1
          funext t
          simp [Piece.pair]
      · have hq : parseP (c :: rest) = none := parseP_bad (by rw [HOP.out]; show (4 : Int) ≠ 0; decide)
        have HQ := Lib.hid hq
        clear hq HOP
        go_wp2_with fail
        refine hE.out.mono ?_
        rintro e w6 ⟨rfl, rfl⟩
        go_wp2_with fail
        refine hE.out.mono ?_
        rintro e w6 ⟨rfl, rfl⟩
        go_wp2_with fail
        go_ret2
        exact parsed_none (by rw [hp.out.eq, HQ.out]; rfl) BEL6.out
end Go.Proofs.Ytpfobbhoahnebaa

/-
  Lists of operations are read: is there one whose code is of a kind, are the codes these. Conditions: sizes within the reach.
-/
namespace Go.Proofs.Ytpfobbhoahnebaa
open Go.RowKit

/-- The slice value v reads as these operations, in a block below B. -/
def OpsR (w : World) (B : Nat) (v : Value) (L : List Piece) : Prop :=
  ∃ A c, v = .slice A L.length c ∧ L.length ≤ c ∧ c ≤ maxLen ∧
    (L ≠ [] → ∃ b o, A = some ⟨b, o, none⟩ ∧ b < B ∧ ∀ i p, L[i]? = some p → w.cell? ⟨b, o + i * 2, none⟩ = some (bv p.code) ∧ w.cell? ⟨b, o + i * 2 + 1, none⟩ = some p.at_ ∧ ∃ A' c', p.at_ = .slice A' p.data.length c')
theorem OpsR.form {w : World} {B : Nat} {v : Value} {L : List Piece} (h : OpsR w B v L) : ∃ A c, v = .slice A L.length c := by
  obtain ⟨A, c, hv, _⟩ := h
  exact ⟨A, c, hv⟩
theorem OpsR.cap {w : World} {B c : Nat} {A : Option Addr} {L : List Piece} (h : OpsR w B (.slice A L.length c) L) : L.length ≤ c ∧ c ≤ 9223372036854775807 := by
  obtain ⟨A', c', e, h1, h2, _⟩ := h
  injection e with e1 e2 e3
  subst e3
  unfold maxLen at h2
  exact ⟨h1, h2⟩
theorem OpsR.len {w : World} {B : Nat} {v : Value} {L : List Piece} (h : OpsR w B v L) : L.length ≤ 9223372036854775807 := by
  obtain ⟨A, c, rfl⟩ := h.form
  have := h.cap
  omega
theorem OpsR.below {w w' : World} {B : Nat} {v : Value} {L : List Piece} (h : OpsR w B v L) (hb : Below B w w') : OpsR w' B v L := by
  obtain ⟨A, c, hv, h1, h2, h3⟩ := h
  refine ⟨A, c, hv, h1, h2, fun hne => ?_⟩
  obtain ⟨b, o, e, hb', hc⟩ := h3 hne
  exact ⟨b, o, e, hb', fun i p hp => ⟨(hb.cell (p := ⟨b, _, none⟩) hb').trans (hc i p hp).1, (hb.cell (p := ⟨b, _, none⟩) hb').trans (hc i p hp).2.1, (hc i p hp).2.2⟩⟩
theorem OpsR.nil (w : World) (B : Nat) : OpsR w B (.slice none 0 0) [] := ⟨none, 0, rfl, Nat.le_refl _, by unfold maxLen; omega, fun h => absurd rfl h⟩
theorem OpsR.of_at {w : World} {base : Nat} {v : Value} {L : List Piece} (h : OpsAt w base v L) : OpsR w w.heap.size v L := by
  rcases h.1.2 with ⟨rfl, hn⟩ | ⟨g, cap, cur, rfl, hb, hg, hnc, hcm, hcs, ht⟩
  · obtain rfl : L = [] := List.eq_nil_of_length_eq_zero hn
    exact OpsR.nil _ _
  · refine ⟨some ⟨g, 0, none⟩, cap, rfl, hnc, hcm, fun hne => ⟨g, 0, rfl, (h.1.lt g rfl).2, fun i p hp => ?_⟩⟩
    have hi := (List.getElem?_eq_some_iff.1 hp).1
    obtain ⟨c0, c1⟩ := cellsOf_at hp
    have hr := h.1
    refine ⟨?_, ?_, OwnB.form (h.2.1 p (List.mem_of_getElem? hp))⟩
    · rw [Nat.zero_add]; exact (World.ownsRow.cellAt hr (i * 2) (by omega)).trans c0
    · rw [Nat.zero_add]; exact (World.ownsRow.cellAt hr (i * 2 + 1) (by omega)).trans c1

/-- Is there one among these, at the index that is answered? -/
def FoundO (w : World) (f : UInt8 → Bool) (L : List Piece) (e : Ending) (w' : World) : Prop := ∃ i : Int, e = .returned (.int .i64 i) ∧ decide (0 ≤ i) = L.any (fun p => f p.code) ∧ Below w.heap.size w w'
theorem anyO_take {f : UInt8 → Bool} {L : List Piece} {k : Nat} (h : k < L.length) : (L.take (k + 1)).any (fun p => f p.code) = ((L.take k).any (fun p => f p.code) || f L[k].code) := by
  rw [List.take_succ_eq_append_getElem h, List.any_append]
  simp

set_option maxRecDepth 100000 in
set_option maxHeartbeats 1600000 in
theorem index_op (g : FuncId) (eg : ∀ args W, (callFunc g args).run Try.prog W = .ok (.enter g args) W) (f : UInt8 → Bool) (hg : ∀ (c : UInt8) (u : Value) (W : World), Calls Try.prog g #[.agg #[.int .u8 (c.toNat : Int), u]] W fun e W' => e = .returned (.bool (f c)) ∧ Below W.heap.size W W')
    (B : Nat) (x : Value) (L : List Piece) (w : World) (hx : OpsR w B x L) (hB : B ≤ w.heap.size) :
    Calls Try.prog 82 #[x, .func (.func g) #[] #[]] w (FoundO w f L) := by
  have hlen := hx.len
  obtain ⟨A, c, rfl⟩ := hx.form
  have hcap := hx.cap
  have HX := Lib.hid hx
  have HG := Lib.hid hg
  clear hx hg
  go_enter Try.func82, Try.ntmps82
  go_wp2_with fail
  go_loopw [8] (fun s wr => ∃ k : Nat, k ≤ L.length ∧ s = .int .i64 (k : Int) ∧ Hid ((L.take k).any (fun p => f p.code) = false) ∧ Hid (Below w.heap.size w wr)) (fun s _ => L.length - (intOf s).toNat)
  case atStart => exact ⟨0, Nat.zero_le _, rfl, Lib.hid (by simp), Lib.hid (Below.refl _ _)⟩
  case round =>
    obtain ⟨k, hk, rfl, hno, hbel⟩ := hrel
    by_cases hlt : k < L.length
    · obtain ⟨A', c', e0, _, _, h4⟩ := HX.out
      obtain ⟨e1, e2, e3⟩ := Value.slice.inj e0
      subst e1 e3
      clear e2
      obtain ⟨b, o, rfl, hb, hc⟩ := h4 (by rintro rfl; simp at hlt)
      obtain ⟨hc0, hc1, _⟩ := hc k _ (List.getElem?_eq_getElem hlt)
      have hsn := anyO_take (f := f) hlt
      obtain ⟨⟨q, d, zs⟩, hq⟩ : ∃ q, q = L[k] := ⟨_, rfl⟩
      rw [← hq] at hc0 hc1 hsn
      dsimp only at hc0 hc1 hsn
      have hr0 : wr.cell? ⟨b, o + k * 2, none⟩ = some (.int .u8 (q.toNat : Int)) := (hbel.out.cell (p := ⟨b, _, none⟩) (by show b < _; omega)).trans hc0
      have hr1 : wr.cell? ⟨b, o + k * 2 + 1, none⟩ = some d := (hbel.out.cell (p := ⟨b, _, none⟩) (by show b < _; omega)).trans hc1
      have HSN := Lib.hid hsn
      clear hc h4 hq hsn e0 hc0 hc1
      have hd : decide (k < L.length) = true := by simpa using hlt
      have HT := Lib.hid (HG.out q d wr)
      by_cases hq0 : f q = true
      · rw [hq0] at HT HSN
        clear hq0
        go_wp2_with fail
        refine HT.out.mono ?_
        rintro e w1 ⟨rfl, hb1⟩
        go_wp2_with fail
        go_ret
        refine ⟨k, rfl, ?_, hbel.out.trans (hb1.mono hbel.out.size)⟩
        rw [decide_eq_true (by omega)]
        have h2 : (L.take (k + 1)).any (fun p => f p.code) = true := by rw [HSN.out]; simp
        symm
        rw [List.any_eq_true] at h2 ⊢
        obtain ⟨y, hy, hy2⟩ := h2
        exact ⟨y, List.mem_of_mem_take hy, hy2⟩
      · have hq1 : f q = false := by simpa using hq0
        rw [hq1] at HT HSN
        clear hq0 hq1
        go_wp2_with fail
        refine HT.out.mono ?_
        rintro e w1 ⟨rfl, hb1⟩
        go_wp2_with fail
        go_roundw
        case rel => exact ⟨k + 1, by omega, by go_num, Lib.hid (by rw [HSN.out, hno.out]; rfl), Lib.hid (hbel.out.trans (hb1.mono hbel.out.size))⟩
        case measure => simp [intOf]; omega
    · obtain rfl : k = L.length := by omega
      go_wp2_with fail
      go_ret
      refine ⟨-1, rfl, ?_, hbel.out⟩
      have := hno.out
      rw [List.take_length] at this
      rw [this]
      rfl

set_option maxHeartbeats 800000 in
theorem contains_op (g : FuncId) (eg : ∀ args W, (callFunc g args).run Try.prog W = .ok (.enter g args) W) (f : UInt8 → Bool) (hg : ∀ (c : UInt8) (u : Value) (W : World), Calls Try.prog g #[.agg #[.int .u8 (c.toNat : Int), u]] W fun e W' => e = .returned (.bool (f c)) ∧ Below W.heap.size W W')
    (B : Nat) (x : Value) (L : List Piece) (w : World) (hx : OpsR w B x L) (hB : B ≤ w.heap.size) :
    Calls Try.prog 48 #[x, .func (.func g) #[] #[]] w fun e w' => e = .returned (.bool (L.any (fun p => f p.code))) ∧ Below w.heap.size w w' := by
  have H := Lib.hid (index_op g eg f hg B x L w hx hB)
  obtain ⟨A, c, rfl⟩ := hx.form
  clear hx hg eg
  go_enter Try.func48, Try.ntmps48
  go_wp2_with fail
  refine H.out.mono ?_
  rintro e w1 ⟨i, rfl, hi, hb⟩
  have HI := Lib.hid hi
  clear hi
  go_wp2_with fail
  go_ret
  exact ⟨by rw [← HI.out]; rfl, hb⟩

set_option maxHeartbeats 400000 in
theorem pushes1_any (c : UInt8) (u : Value) (w : World) :
    Calls Try.prog 49 #[.agg #[.int .u8 (c.toNat : Int), u]] w fun e w' => e = .returned (.bool (decide (96 < c.toNat))) ∧ Below w.heap.size w w' := by
  have hb : decide ((96 : Int) < (c.toNat : Int)) = decide (96 < c.toNat) := by rw [Bool.eq_iff_iff]; simp only [decide_eq_true_eq]; omega
  have HB := Lib.hid hb
  clear hb
  go_enter Try.func49, Try.ntmps49
  go_wp2_with fail
  go_ret
  exact ⟨by rw [← HB.out]; rfl, (Below.refl _ _).alloc (Nat.le_refl _) _⟩
set_option maxHeartbeats 400000 in
theorem multi1_any (c : UInt8) (u : Value) (w : World) :
    Calls Try.prog 87 #[.agg #[.int .u8 (c.toNat : Int), u]] w fun e w' => e = .returned (.bool (c != 33)) ∧ Below w.heap.size w w' := by
  have hb : ((c.toNat : Int) != 33) = (c != 33) := by
    rw [Bool.eq_iff_iff]
    simp only [bne_iff_ne, ne_eq]
    exact not_congr ⟨fun h => u8_ext (by show c.toNat = 33; omega), fun h => by subst h; rfl⟩
  have HB := Lib.hid hb
  clear hb
  go_enter Try.func87, Try.ntmps87
  go_wp2_with fail
  go_ret
  exact ⟨by rw [← HB.out]; rfl, (Below.refl _ _).alloc (Nat.le_refl _) _⟩

theorem contains_above (B : Nat) (x : Value) (L : List Piece) (w : World) (hx : OpsR w B x L) (hB : B ≤ w.heap.size) :
    Calls Try.prog 48 #[x, .func (.func 49) #[] #[]] w fun e w' => e = .returned (.bool (L.any (fun p => decide (96 < p.code.toNat)))) ∧ Below w.heap.size w w' :=
  contains_op _ (enters_of Try.func49 (by kernel_rfl) rfl) (fun c => decide (96 < c.toNat)) pushes1_any B x L w hx hB
theorem contains_key (B : Nat) (x : Value) (L : List Piece) (w : World) (hx : OpsR w B x L) (hB : B ≤ w.heap.size) :
    Calls Try.prog 48 #[x, .func (.func 87) #[] #[]] w fun e w' => e = .returned (.bool (L.any (fun p => p.code != 33))) ∧ Below w.heap.size w w' :=
  contains_op _ (enters_of Try.func87 (by kernel_rfl) rfl) (fun c => c != 33) multi1_any B x L w hx hB

/-- Does a script push only? -/
def pushesB (xs : List UInt8) : Bool := match parseP xs with | none => false | some ops => !ops.any (fun p => decide (96 < p.1.toNat))
theorem any_pair (f : UInt8 → Bool) (L : List Piece) : (L.map Piece.pair).any (fun p => f p.1) = L.any (fun p => f p.code) := by rw [List.any_map]; rfl

set_option maxHeartbeats 800000 in
theorem pushes_any (B : Nat) (x : Value) (xs : List UInt8) (w : World) (hx : Byt w B x xs) (hl : xs.length ≤ 60000000) :
    Calls Try.prog 14 #[x] w fun e w' => e = .returned (.bool (pushesB xs)) ∧ Below w.heap.size w w' := by
  have HP := Lib.hid (parse_any B x xs w hx hl)
  obtain ⟨A, c, rfl⟩ := hx.form
  clear hx
  unfold Parsed at HP
  unfold pushesB
  cases hp : parseP xs with
  | none =>
    rw [hp] at HP
    dsimp only at HP
    clear hp
    go_enter Try.func14, Try.ntmps14
    go_wp2_with fail
    refine HP.out.mono ?_
    rintro e w1 ⟨rfl, hb⟩
    go_wp2_with fail
    go_ret
    exact ⟨rfl, hb⟩
  | some ops =>
    rw [hp] at HP
    dsimp only at HP ⊢
    clear hp
    obtain ⟨b, hb⟩ : ∃ b, b = ops.any (fun p => decide (96 < p.1.toNat)) := ⟨_, rfl⟩
    rw [← hb]
    have HB := Lib.hid hb
    clear hb
    go_enter Try.func14, Try.ntmps14
    go_wp2_with fail
    refine HP.out.mono ?_
    rintro e w1 ⟨A1, c1, L, rfl, hL, hops, hb1⟩
    have hll : L.length = ops.length := by rw [← hL, List.length_map]
    have hC := Lib.hid (contains_above w1.heap.size _ L w1 (by have := OpsR.of_at hops; exact this) (Nat.le_refl _))
    have hbL : L.any (fun p => decide (96 < p.code.toNat)) = b := by rw [HB.out, ← hL]; exact (any_pair (fun c => decide (96 < c.toNat)) L).symm
    rw [hbL] at hC
    clear hL hll hops hbL HB
    go_wp2_with fail
    refine hC.out.mono ?_
    rintro e w2 ⟨rfl, hb2⟩
    go_wp2_with fail
    go_ret
    exact ⟨rfl, hb1.trans (hb2.mono hb1.size)⟩
end Go.Proofs.Ytpfobbhoahnebaa
