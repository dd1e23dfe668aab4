/-
  script.value: the number that at most eight bytes say. Conditions: at most eight bytes.
-/
import Derived.Test.YtadgaeokiolmmaaSnTruth
import Derived.Test.YtadgaeokiolmmaaBackw
import Derived.IntWalk
namespace Go.Proofs.Ytadgaeokiolmmaa
open Go.RowKit Go.Shelf

attribute [local go_sem] Oper.semAt_some

theorem or_low (m c : Nat) (hm : m < 36028797018963968) (hc : c < 256) : bits .or .i64 ((m : Int) * 256) (c : Int) = (m : Int) * 256 + c := by
  have e1 : (m : Int) * 256 = ((m * 256 : Nat) : Int) := by omega
  rw [e1]
  show IntKind.i64.wrap ((BitVec.ofInt 64 ((m * 256 : Nat) : Int) ||| BitVec.ofInt 64 ((c : Nat) : Int)).toNat : Int) = _
  rw [BitVec.toNat_or, Go.ofInt_u64 _ (by omega), Go.ofInt_u64 _ (by omega)]
  have e2 : m * 256 ||| c = m * 256 + c := by
    have := Nat.two_pow_add_eq_or_of_lt (i := 8) (b := c) (by omega) m
    rw [show 2 ^ 8 * m = m * 256 by omega] at this
    exact this.symm
  rw [e2, IntWalk.i64_in _ (by omega)]
  omega

/-- What the bytes that have come make of y. -/
def valG (y : Nat) (pre : List (Nat × UInt8)) : Nat := pre.foldl (fun s x => s * 256 + x.2.toNat) y
theorem valG_snoc (y : Nat) (pre : List (Nat × UInt8)) (x : Nat × UInt8) : valG y (pre ++ [x]) = valG y pre * 256 + x.2.toNat := by simp [valG]
theorem valG_lt (y : Nat) (pre : List (Nat × UInt8)) : valG y pre < (y + 1) * 256 ^ pre.length := by
  obtain ⟨r, hr⟩ : ∃ r, r = pre.reverse := ⟨_, rfl⟩
  have hp : pre = r.reverse := by rw [hr, List.reverse_reverse]
  rw [hp]
  clear hp hr pre
  induction r with
  | nil => simp [valG]
  | cons x r ih =>
    rw [List.reverse_cons, valG_snoc, List.length_append, List.length_cons, List.length_nil, Nat.zero_add, Nat.pow_succ, ← Nat.mul_assoc]
    have := x.2.toNat_lt
    omega
theorem valG_room {y : Nat} {pre : List (Nat × UInt8)} (hy : y < 128) (h : pre.length ≤ 6) : valG y pre < 36028797018963968 := by
  have h1 := valG_lt y pre
  have h2 : 256 ^ pre.length ≤ 256 ^ 6 := Nat.pow_le_pow_right (by decide) h
  have h3 : (y + 1) * 256 ^ pre.length ≤ 128 * 256 ^ 6 := Nat.mul_le_mul (by omega) h2
  have h4 : 128 * 256 ^ 6 = 36028797018963968 := by decide
  omega
theorem valG_upto (y : Nat) (fr : List UInt8) (k : Nat) (hk : k ≤ fr.length) : valG y (upto (fromEnd fr) k) = valN (fr.drop (fr.length - k)) + 256 ^ k * y := by
  induction k with
  | zero => simp [upto, valG, valN]
  | succ k ih =>
    rw [upto_succ, valG_snoc, ih (by omega)]
    have e : fr.drop (fr.length - (k + 1)) = fr[fr.length - (k + 1)]'(by omega) :: fr.drop (fr.length - k) := by
      rw [List.drop_eq_getElem_cons (by omega)]
      congr 2
      omega
    rw [e]
    show _ = (fr[fr.length - (k + 1)]'(by omega)).toNat + 256 * valN (fr.drop (fr.length - k)) + 256 ^ (k + 1) * y
    have e2 : (fromEnd fr k).2 = fr[fr.length - (k + 1)]'(by omega) := by
      unfold fromEnd
      show fr[fr.length - 1 - k]?.getD 0 = _
      rw [List.getElem?_eq_getElem (by omega)]
      show fr[fr.length - 1 - k]'_ = _
      congr 1
      omega
    rw [e2, Nat.pow_succ, Nat.add_mul, Nat.mul_assoc, Nat.mul_comm y 256, ← Nat.mul_assoc]
    omega
theorem valG_all (q : UInt8) (fr : List UInt8) : valG (q.toNat % 128) (upto (fromEnd fr) fr.length) = valN (fr ++ [UInt8.ofNat (q.toNat % 128)]) := by
  rw [valG_upto _ _ _ (Nat.le_refl _), Nat.sub_self, List.drop_zero, valN_append]
  show _ = valN fr + 256 ^ fr.length * ((UInt8.ofNat (q.toNat % 128)).toNat + 256 * 0)
  rw [to_lo, Nat.mul_zero, Nat.add_zero]

theorem value_nil (B : Nat) (x : Value) (w : World) (hx : Byt w B x []) :
    Calls Try.prog 60 #[x] w fun e w' => e = .returned (.int .i64 0) ∧ Below w.heap.size w w' := by
  obtain ⟨A, c, rfl⟩ := hx.form
  go_enter Try.func60, Try.ntmps60
  go_wp2
  go_ret
  exact ⟨rfl, Below.refl _ _⟩

theorem cell_al {W : World} {p : Addr} {v : Value} (o : Obj) (h : W.cell? p = some v) : (W.alloc o).cell? p = some v :=
  (((Below.refl W.heap.size W).alloc (Nat.le_refl _) o).cell (World.block_lt_of_cell? _ _ h)).trans h
theorem frozen_al {W : World} {p : Addr} {v : Value} (o : Obj) (h : W.cell? p = some v) (hf : W.frozen? p = false) : (W.alloc o).frozen? p = false :=
  (((Below.refl W.heap.size W).alloc (Nat.le_refl _) o).frozen (World.block_lt_of_cell? _ _ h)).trans hf

theorem backw_any (a : Option Addr) (len cap : Nat) (w : World) :
    Calls Try.prog 84 #[.slice a len cap] w fun e w' => e = .returned (.func (.func 98) #[] #[.pointer (some ⟨w.heap.size, 0, none⟩)]) ∧ w' = w.alloc (.cells #[.slice a len cap] 22) :=
  (callsIn_wide (n := 3)).1 (backw_in Fence.wide 3 trivial rfl a len cap w)

set_option maxRecDepth 100000 in
set_option maxHeartbeats 2000000 in
theorem value_in (B b o c : Nat) (fr : List UInt8) (q : UInt8) (hl : fr.length ≤ 7) (w : World)
    (hx : Byt w B (.slice (some ⟨b, o, none⟩) (fr.length + 1) c) (fr ++ [q])) (hB : B ≤ w.heap.size) :
    CallsIn Fence.wide 3 Try.prog 60 #[.slice (some ⟨b, o, none⟩) (fr.length + 1) c] w fun e W' => e = .returned (.int .i64 (valS (fr ++ [q]))) ∧ Below w.heap.size w W' := by
  obtain ⟨A', c', e0, g1, g2, _, h4⟩ := hx
  obtain ⟨e1, e2, e3⟩ := Value.slice.inj e0
  subst e1 e3
  clear e2
  obtain ⟨b', o', e1, hb, hc⟩ := h4 (by simp)
  cases e1
  have hcell : w.cell? ⟨b, o + fr.length, none⟩ = some (.int .u8 (q.toNat : Int)) := hc fr.length q (by simp)
  rw [List.length_append, List.length_cons, List.length_nil, Nat.zero_add] at g1
  unfold maxLen at g2
  have hfr : Byt w B (.slice (some ⟨b, o, none⟩) fr.length c) fr := by
    refine ⟨some ⟨b, o, none⟩, c, rfl, by omega, by unfold maxLen; omega, (by intro h; cases h), fun _ => ⟨b, o, rfl, hb, fun j u hu => ?_⟩⟩
    exact hc j u (by rw [List.getElem?_append_left (List.getElem?_eq_some_iff.1 hu).1]; exact hu)
  have HFR := Lib.hid hfr
  clear hfr h4 hc e0
  have hq128 : q.toNat % 128 < 128 := Nat.mod_lt _ (by decide)
  have han := andNot128 q
  have hall := valG_all q fr
  obtain ⟨y, hy⟩ : ∃ y : Nat, y = q.toNat % 128 := ⟨_, rfl⟩
  rw [← hy] at hq128 han hall
  have HALL := Lib.hid hall
  have HY := Lib.hid hy
  clear hy hall
  have hbw : b < w.heap.size := by omega
  refine callsIn_of_wp_marks Try.func60 rfl trivial ?_ rfl
  simp only [Try.ntmps60, List.size_toArray, List.length_cons, List.length_nil, Nat.reduceAdd, Nat.reduceSub, Array.replicate_succ, Array.replicate_zero, List.push_toArray, List.append_toArray, List.nil_append, List.cons_append]
  refine wpIn_wide.2 ?_
  go_wp2_with fail
  refine (backw_any _ _ _ _).mono ?_
  rintro e w' ⟨rfl, rfl⟩
  go_wp2_with fail
  clear han
  have hB1 : Below w.heap.size w (w.alloc (.cells #[.int .i64 (y : Int)] 2)) := (Below.refl _ w).alloc (Nat.le_refl _) _
  have bN := Boxed.new w 2 (.int .i64 (y : Int))
  obtain ⟨W1, hW1⟩ : ∃ W1, W1 = w.alloc (.cells #[.int .i64 (y : Int)] 2) := ⟨_, rfl⟩
  have hs1 : W1.heap.size = w.heap.size + 1 := by rw [hW1]; simp
  rw [← hW1] at hB1 bN ⊢
  have bS := Boxed.new W1 22 (.slice (some ⟨b, o, none⟩) fr.length c)
  rw [hs1] at bS
  have hB0 : Below w.heap.size w (W1.alloc (.cells #[.slice (some ⟨b, o, none⟩) fr.length c] 22)) := hB1.alloc (by omega) _
  have hfr2 : Byt (W1.alloc (.cells #[.slice (some ⟨b, o, none⟩) fr.length c] 22)) B (.slice (some ⟨b, o, none⟩) fr.length c) fr := HFR.out.below (hB0.mono hB)
  have hSv : ∀ k, (Value.slice (some ⟨b, o, none⟩) fr.length c).ownBlock = some k → (k ≠ w.heap.size ∧ k ≤ w.heap.size + 1) := fun k hk => by
    have : b = k := by simpa [Value.ownBlock] using hk
    omega
  refine (wpIn_wide (n := 3)).1 ?_
  refine wpIn_rangeFunc_ownG rfl (by omega) (gf := 98) (lb := #[.pointer (some ⟨w.heap.size + 1, 0, none⟩)]) rfl trivial (enters_of Try.func98 (by kernel_rfl) rfl)
    (backw_stops Fence.wide 2 trivial rfl (by omega) (w.heap.size + 1) B (fun k => k ≠ w.heap.size ∧ k ≤ w.heap.size + 1) _ fr _ (by omega) (by simp; omega) (by simp; omega) hSv bS.cell hfr2) (fun h k => h.trans k) (fun W l o o' hl _ _ _ => Holds.putObj W l o' (by simp at hl; omega)) (Below.refl _ _) (fun _ => rfl)
    (fun pre W => (W.cell? ⟨w.heap.size, 0, none⟩ = some (.int .i64 (valG y pre : Nat)) ∧ W.frozen? ⟨w.heap.size, 0, none⟩ = false) ∧ Below w.heap.size w W)
    (fun _ _ _ => False)
    (OwnFrom.and (Own.from (fun s A B row hs hg hr => ⟨cell_kept hs.1 hg hr, (frozen_kept hs.1 hg hr).trans hs.2⟩) _) (ownFrom_below (Nat.le_refl _) (by simp; omega)))
    (fun _ _ _ _ _ hs _ _ => hs)
    ⟨⟨cell_al _ bN.cell, frozen_al _ bN.cell bN.frozen⟩, hB0⟩
    (fun x => { tmps := #[.slice (some ⟨b, o, none⟩) (fr.length + 1) c, undef, .int .i64 0, .int .i64 fr.length, .pointer (some ⟨w.heap.size, 0, none⟩), undef, .int .u8 (x.2.toNat : Int), .slice (some ⟨b, o, none⟩) (fr.length + 1) c, .int .i64 ((fr.length : Int) + 1), .bool false,
      .slice (some ⟨b, o, none⟩) (fr.length + 1) c, .int .i64 ((fr.length : Int) + 1), .int .i64 fr.length, .slice (some ⟨b, o, none⟩) (fr.length + 1) c, .int .i64 fr.length, .pointer (some ⟨b, o + fr.length, none⟩), .int .u8 (q.toNat : Int), .int .u8 (y : Int), .int .i64 (y : Int),
      .slice (some ⟨b, o, none⟩) (fr.length + 1) c, .int .i64 fr.length, .slice (some ⟨b, o, none⟩) fr.length c, .func (.func 98) #[] #[.pointer (some ⟨w.heap.size + 1, 0, none⟩)], .int .i64 (x.1 : Int), .int .u8 (x.2.toNat : Int), undef, undef, undef, undef, undef, undef, undef, undef, undef, undef, undef, undef, undef, undef], defers := [] }) ?assign ?body ?done ?stop
  case assign =>
    intro l x W K hK
    gi_wp2
    exact hK
  case body =>
    rintro l pre x W ⟨⟨hc, hf⟩, hB⟩ hlt
    have hg := valG_room (y := y) (pre := pre) hq128 (by omega)
    have hsn := valG_snoc y pre x
    have hx256 := x.2.toNat_lt
    have hor := or_low (valG y pre) x.2.toNat hg hx256
    have HSN := Lib.hid hsn
    clear hsn
    generalize valG y pre = g at *
    gi_wp2
    refine ⟨(KeepsOthers.setCell _ _ _).from _, (Holds.refl _ W).setCell (p := ⟨w.heap.size, 0, none⟩) (by show ¬ (w.heap.size ≠ w.heap.size ∧ _); simp) _, ⟨?_, by rw [World.frozen?_setCell]; exact hf⟩, hB.setCell (p := ⟨w.heap.size, 0, none⟩) (Nat.le_refl _) _⟩
    rw [HSN.out, World.cell?_setCell_same' _ _ _ (by rw [hc]; rfl)]
    congr 2
  case done =>
    rintro D ys W hD rfl ⟨⟨hc, _⟩, hB⟩ hK
    have hcW : W.cell? ⟨b, o + fr.length, none⟩ = some (.int .u8 (q.toNat : Int)) := (hB.cell (p := ⟨b, o + fr.length, none⟩) hbw).trans hcell
    have hV := valN_last_lt (fr := fr) (x := UInt8.ofNat y) hl (by rw [HY.out, to_lo]; omega)
    rw [HALL.out] at hc
    obtain ⟨V, hVV⟩ : ∃ V, V = valN (fr ++ [UInt8.ofNat y]) := ⟨_, rfl⟩
    rw [← hVV] at hc hV
    by_cases hq : 128 ≤ q.toNat
    · have hand : bits .and .u8 (q.toNat : Int) 128 = 128 := by rw [and128, if_pos hq]
      have hval : valS (fr ++ [q]) = -(V : Int) := by rw [valS_hi hq, ← HY.out, ← hVV]
      have HV := Lib.hid hval
      clear hval hVV
      go_wp2_with fail
      refine ⟨by simp, .inl ⟨_, _, rfl, run_takeDeferred hK, ?_⟩⟩
      exact ⟨_, results_tmp rfl _ _ _, by rw [HV.out]; rfl, hB.trans (belowK_b (w := w) (Nat.le_refl _) W D _ _ (by simp at hD; omega) hK rfl rfl)⟩
    · have hand : bits .and .u8 (q.toNat : Int) 128 = 0 := by rw [and128, if_neg hq]
      have hval : valS (fr ++ [q]) = (V : Int) := by rw [valS_lo (by omega), hVV, HY.out, lo128 (by omega)]
      have HV := Lib.hid hval
      clear hval hVV
      go_wp2_with fail
      refine ⟨by simp, .inl ⟨_, _, rfl, run_takeDeferred hK, ?_⟩⟩
      exact ⟨_, results_tmp rfl _ _ _, by rw [HV.out]; rfl, hB.trans (belowK_b (w := w) (Nat.le_refl _) W D _ _ (by simp at hD; omega) hK rfl rfl)⟩
  case stop =>
    rintro D c pre W _ _ h _
    exact h.elim

theorem value_any (B : Nat) (x : Value) (xs : List UInt8) (hl : xs.length ≤ 8) (w : World) (hx : Byt w B x xs) (hB : B ≤ w.heap.size) :
    Calls Try.prog 60 #[x] w fun e w' => e = .returned (.int .i64 (valS xs)) ∧ Below w.heap.size w w' := by
  rcases snoc_cases xs with rfl | ⟨fr, q, rfl⟩
  · exact value_nil B x w hx
  · have hx2 := hx
    obtain ⟨A, c, rfl, h1, h2, _, h4⟩ := hx
    obtain ⟨b, o, rfl, hb, hc⟩ := h4 (by simp)
    rw [List.length_append, List.length_cons, List.length_nil, Nat.zero_add] at hl hx2 ⊢
    exact (callsIn_wide (n := 3)).1 (value_in B b o c fr q (by omega) w hx2 hB)
end Go.Proofs.Ytadgaeokiolmmaa
