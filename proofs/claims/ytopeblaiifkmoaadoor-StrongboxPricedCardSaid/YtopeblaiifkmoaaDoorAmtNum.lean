/-
  What digits stand for: the program's loop over them from the end on. Conditions: at most sixteen bytes.
-/
import Derived.Test.YtopeblaiifkmoaaDoorBackw
import Derived.Test.YtopeblaiifkmoaaDoorAmt
import Derived.Lib.ConvBytes
namespace Go.Proofs.YtopeblaiifkmoaaDoor
open Go.RowKit Go.Shelf

attribute [local go_sem] Oper.semAt_some

/-- A byte less 48, as a byte. -/
def dvB (c : UInt8) : Int := IntKind.u8.wrap ((c.toNat : Int) - 48)
theorem dvB_eq (c : UInt8) : dvB c = ((c.toNat : Int) - 48) % 256 := by unfold dvB IntKind.wrap; simp [IntKind.bits, IntKind.signed]
theorem dvB_bd (c : UInt8) : 0 ≤ dvB c ∧ dvB c ≤ 255 := by rw [dvB_eq]; omega

/-- The sum and what the next one is worth. -/
def numG (pre : List (Nat × UInt8)) : Int × Int := pre.foldl (fun s x => (s.1 + dvB x.2 * s.2, s.2 * 10)) (0, 1)
theorem numG_snoc (pre : List (Nat × UInt8)) (x : Nat × UInt8) : numG (pre ++ [x]) = ((numG pre).1 + dvB x.2 * (numG pre).2, (numG pre).2 * 10) := by simp [numG]
theorem numG_bd (pre : List (Nat × UInt8)) : 1 ≤ (numG pre).2 ∧ (numG pre).2 = 10 ^ pre.length ∧ 0 ≤ (numG pre).1 ∧ (numG pre).1 ≤ 29 * ((numG pre).2 - 1) := by
  obtain ⟨r, hr⟩ : ∃ r, r = pre.reverse := ⟨_, rfl⟩
  have hp : pre = r.reverse := by rw [hr, List.reverse_reverse]
  rw [hp]
  clear hp hr pre
  induction r with
  | nil => simp [numG]
  | cons x r ih =>
    rw [List.reverse_cons, numG_snoc, List.length_append, List.length_cons, List.length_nil, Nat.zero_add, Int.pow_succ]
    obtain ⟨h1, h2, h3, h4⟩ := ih
    obtain ⟨d0, d1⟩ := dvB_bd x.2
    have m0 : 0 ≤ dvB x.2 * (numG r.reverse).2 := Int.mul_nonneg d0 (by omega)
    have m1 : dvB x.2 * (numG r.reverse).2 ≤ 255 * (numG r.reverse).2 := Int.mul_le_mul_of_nonneg_right d1 (by omega)
    refine ⟨?_, ?_, ?_, ?_⟩
    · show 1 ≤ (numG r.reverse).2 * 10; omega
    · show (numG r.reverse).2 * 10 = _; rw [h2]
    · show 0 ≤ (numG r.reverse).1 + _; omega
    · show (numG r.reverse).1 + _ ≤ 29 * ((numG r.reverse).2 * 10 - 1); omega
theorem numG_room (pre : List (Nat × UInt8)) (h : pre.length ≤ 16) : (numG pre).2 ≤ 10000000000000000 := by
  rw [(numG_bd pre).2.1]
  have : (10 : Int) ^ pre.length ≤ 10 ^ 16 := by exact_mod_cast Nat.pow_le_pow_right (by omega) h
  omega

theorem blen (s : ByteArray) : s.data.toList.length = s.size := Array.length_toList
theorem cell_al {W : World} {p : Addr} {v : Value} (o : Obj) (h : W.cell? p = some v) : (W.alloc o).cell? p = some v :=
  (((Below.refl W.heap.size W).alloc (Nat.le_refl _) o).cell (World.block_lt_of_cell? _ _ h)).trans h
theorem frozen_al {W : World} {p : Addr} {v : Value} (o : Obj) (h : W.cell? p = some v) (hf : W.frozen? p = false) : (W.alloc o).frozen? p = false :=
  (((Below.refl W.heap.size W).alloc (Nat.le_refl _) o).frozen (World.block_lt_of_cell? _ _ h)).trans hf

set_option maxRecDepth 100000 in
set_option maxHeartbeats 2000000 in
theorem number_in (F : Fence) (n : Nat) (h1f : F.fn 31) (h2f : F.fn 36) (h3f : F.fn 42) (hro : F.round = none) (hn : 3 ≤ n) (s : ByteArray) (hs : s.size ≤ 16) (w : World) :
    CallsIn F n Tryd.prog 31 #[.string s] w fun e W' => e = .returned (.int .i64 (numG (upto (fromEnd s.data.toList) s.data.toList.length)).1) ∧ Below w.heap.size w W' := by
  have h1 : 1 ≤ n := by omega
  refine callsIn_of_wp_marks Tryd.func31 rfl h1f ?_ hro
  simp only [Tryd.ntmps31, List.size_toArray, List.length_cons, List.length_nil, Nat.reduceAdd, Nat.reduceSub, Array.replicate_succ, Array.replicate_zero, List.push_toArray, List.append_toArray, List.nil_append, List.cons_append]
  have kc := fun (w : World) => Lib.run_convert_string_bytes (P := Tryd.prog) w 9 55 5 s Tryd.underlying9 Tryd.underlying55 Tryd.underlying5
  gi_wp2_with (gi_at_call 36; refine (backw_in F (n - 1) h2f hro _ _ _ _).mono ?_; rintro e w' ⟨rfl, rfl⟩)
  clear kc
  have hB1 : Below w.heap.size w ((w.alloc (.cells #[.int .i64 0] 2)).alloc (.cells #[.int .i64 1] 2)) := ((Below.refl _ w).alloc (Nat.le_refl _) _).alloc (by simp) _
  have bN := (Boxed.new w 2 (.int .i64 0)).alloc (.cells #[.int .i64 1] 2)
  have bW := Boxed.new (w.alloc (.cells #[.int .i64 0] 2)) 2 (.int .i64 1)
  rw [World.size_alloc] at bW
  obtain ⟨W1, hW1⟩ : ∃ W1, W1 = (w.alloc (.cells #[.int .i64 0] 2)).alloc (.cells #[.int .i64 1] 2) := ⟨_, rfl⟩
  have hs1 : W1.heap.size = w.heap.size + 1 + 1 := by rw [hW1]; simp
  rw [← hW1] at hB1 bN bW ⊢
  obtain ⟨BW, hBW⟩ : ∃ BW, BW = Lib.bytesWorld W1 5 s := ⟨_, rfl⟩
  have hs2 : BW.heap.size = w.heap.size + 1 + 1 + 1 := by rw [hBW, Lib.bytesWorld_size, hs1]
  have hB2 : Below W1.heap.size W1 BW := by rw [hBW]; exact ⟨rfl, rfl, rfl, by rw [Lib.bytesWorld_size]; omega, fun k hk => Lib.bytesWorld_at_old _ _ _ _ hk⟩
  obtain ⟨c0, hc0⟩ : ∃ c0, c0 = grownCap W1 s.size 0 5 := ⟨_, rfl⟩
  have hby : Byt BW BW.heap.size (.slice (some ⟨w.heap.size + 1 + 1, 0, none⟩) s.size c0) s.data.toList := by
    refine ⟨_, c0, by rw [blen], ?_, ?_, (by intro h; cases h), fun _ => ⟨w.heap.size + 1 + 1, 0, rfl, by omega, fun j u hu => ?_⟩⟩
    · rw [hc0]; rw [blen]; exact grownCap_ge _ _ _ _
    · rw [hc0]; exact grownCap_le_maxLen _ _ _ _ (by unfold maxLen; omega)
    · have hj : j < s.size := by
        have := (List.getElem?_eq_some_iff.1 hu).1
        rw [blen] at this
        exact this
      have := Lib.bytesWorld_cell W1 5 s j hj
      rw [hs1, ← hBW] at this
      rw [Nat.zero_add, this, List.getD, hu]
      rfl
  rw [← hBW, ← hc0]
  clear hBW hW1 hc0
  have hN : BW.cell? ⟨w.heap.size, 0, none⟩ = some (.int .i64 0) := (hB2.cell (p := ⟨w.heap.size, 0, none⟩) (by show w.heap.size < _; omega)).trans bN.cell
  have hNf : BW.frozen? ⟨w.heap.size, 0, none⟩ = false := (hB2.frozen (p := ⟨w.heap.size, 0, none⟩) (by show w.heap.size < _; omega)).trans bN.frozen
  have hP : BW.cell? ⟨w.heap.size + 1, 0, none⟩ = some (.int .i64 1) := (hB2.cell (p := ⟨w.heap.size + 1, 0, none⟩) (by show w.heap.size + 1 < _; omega)).trans bW.cell
  have hPf : BW.frozen? ⟨w.heap.size + 1, 0, none⟩ = false := (hB2.frozen (p := ⟨w.heap.size + 1, 0, none⟩) (by show w.heap.size + 1 < _; omega)).trans bW.frozen
  have bS := Boxed.new BW 55 (.slice (some ⟨w.heap.size + 1 + 1, 0, none⟩) s.size c0)
  have hB0 : Below w.heap.size w (BW.alloc (.cells #[.slice (some ⟨w.heap.size + 1 + 1, 0, none⟩) s.size c0] 55)) := (hB1.trans (hB2.mono (by omega))).alloc (by omega) _
  have hs3 : w.heap.size + 1 + 1 < BW.heap.size := by omega
  clear hs1 hs2
  have hbl : s.data.toList.length ≤ 16 := by rw [blen]; exact hs
  have hSv : ∀ k, (Value.slice (some ⟨w.heap.size + 1 + 1, 0, none⟩) s.size c0).ownBlock = some k → (w.heap.size + 1 < k ∧ k ≤ BW.heap.size) := fun k hk => by
    have : w.heap.size + 1 + 1 = k := by simpa [Value.ownBlock] using hk
    omega
  refine wpIn_rangeFunc_ownG hro h1 (gf := 42) (lb := #[.pointer (some ⟨BW.heap.size, 0, none⟩)]) rfl h3f (enters_of Tryd.func42 (by kernel_rfl) rfl)
    (backw_stops F (n - 1) h3f hro (by omega) BW.heap.size BW.heap.size (fun k => w.heap.size + 1 < k ∧ k ≤ BW.heap.size) _ s.data.toList _ (by omega) (by simp) (by simp) hSv bS.cell (hby.keep fun b o hb => ((Below.refl BW.heap.size BW).alloc (Nat.le_refl _) _).cell (p := ⟨b, o, none⟩) hb)) (fun h k => h.trans k) (fun W l o o' hl _ _ _ => Holds.putObj W l o' (by simp at hl; omega)) (Below.refl _ _) (fun _ => rfl)
    (fun pre W => ((W.cell? ⟨w.heap.size, 0, none⟩ = some (.int .i64 (numG pre).1) ∧ W.frozen? ⟨w.heap.size, 0, none⟩ = false) ∧ (W.cell? ⟨w.heap.size + 1, 0, none⟩ = some (.int .i64 (numG pre).2) ∧ W.frozen? ⟨w.heap.size + 1, 0, none⟩ = false)) ∧ Below w.heap.size w W)
    (fun _ _ _ => False)
    (OwnFrom.and (Own.from (fun s A B row hs hg hr => ⟨⟨cell_kept hs.1.1 hg hr, (frozen_kept hs.1.1 hg hr).trans hs.1.2⟩, ⟨cell_kept hs.2.1 hg hr, (frozen_kept hs.2.1 hg hr).trans hs.2.2⟩⟩) _) (ownFrom_below (Nat.le_refl _) (by simp; omega)))
    (fun _ _ _ _ _ hs _ _ => hs)
    ⟨⟨⟨cell_al _ hN, frozen_al _ hN hNf⟩, ⟨cell_al _ hP, frozen_al _ hP hPf⟩⟩, hB0⟩
    (fun x => { tmps := #[.string s, undef, .int .i64 0, .pointer (some ⟨w.heap.size, 0, none⟩), .pointer (some ⟨w.heap.size + 1, 0, none⟩), undef, Value.int .u8 (x.2.toNat : Int), .string s, .slice (some ⟨w.heap.size + 1 + 1, 0, none⟩) s.size c0, .func (.func 42) #[] #[.pointer (some ⟨BW.heap.size, 0, none⟩)], .int .i64 (x.1 : Int), Value.int .u8 (x.2.toNat : Int), undef, undef, undef, undef, undef, undef, undef, undef, undef, undef], defers := [] }) ?assign ?body ?done ?stop
  case assign =>
    intro l x W K hK
    gi_wp2
    exact hK
  case body =>
    rintro l pre x W ⟨⟨⟨hc, hf⟩, ⟨hc2, hf2⟩⟩, hB⟩ hlt
    obtain ⟨q1, qe, p0, p1⟩ := numG_bd pre
    have q2 := numG_room pre (by omega)
    obtain ⟨d0, d1⟩ := dvB_bd x.2
    have hsn := numG_snoc pre x
    have m0 : 0 ≤ dvB x.2 * (numG pre).2 := Int.mul_nonneg d0 (by omega)
    have m1 : dvB x.2 * (numG pre).2 ≤ 255 * (numG pre).2 := Int.mul_le_mul_of_nonneg_right d1 (by omega)
    have hd : IntKind.u8.wrap ((x.2.toNat : Int) - 48) = dvB x.2 := rfl
    have HSN := Lib.hid hsn
    clear hsn qe
    generalize numG pre = g at *
    obtain ⟨p, q⟩ := g
    generalize dvB x.2 = d at *
    dsimp only at *
    gi_wp2
    refine ⟨((KeepsOthers.setCell _ _ _).trans (KeepsOthers.setCell _ _ _)).from _, ((Holds.refl _ W).setCell (p := ⟨w.heap.size, 0, none⟩) (by show ¬ (w.heap.size + 1 < w.heap.size ∧ _); omega) _).setCell (p := ⟨w.heap.size + 1, 0, none⟩) (by show ¬ (w.heap.size + 1 < w.heap.size + 1 ∧ _); omega) _, ?_, (hB.setCell (p := ⟨w.heap.size, 0, none⟩) (Nat.le_refl _) _).setCell (p := ⟨w.heap.size + 1, 0, none⟩) (by show w.heap.size ≤ w.heap.size + 1; omega) _⟩
    rw [HSN.out]
    have k1 : (W.setCell ⟨w.heap.size, 0, none⟩ (.int .i64 (p + d * q))).cell? ⟨w.heap.size + 1, 0, none⟩ = some (.int .i64 q) := by
      rw [World.cell?_of_block (w := W) (Below.heap_setCell _ _ _ _ (by show w.heap.size + 1 ≠ w.heap.size; omega))]; exact hc2
    have k0 : (W.setCell ⟨w.heap.size, 0, none⟩ (.int .i64 (p + d * q))).cell? ⟨w.heap.size, 0, none⟩ = some (.int .i64 (p + d * q)) := World.cell?_setCell_same' _ _ _ (by rw [hc]; rfl)
    refine ⟨⟨?_, by rw [World.frozen?_setCell, World.frozen?_setCell]; exact hf⟩, World.cell?_setCell_same' _ _ _ (by rw [k1]; rfl), by rw [World.frozen?_setCell, World.frozen?_setCell]; exact hf2⟩
    rw [World.cell?_of_block (w := W.setCell ⟨w.heap.size, 0, none⟩ (.int .i64 (p + d * q))) (Below.heap_setCell _ _ _ _ (by show w.heap.size ≠ w.heap.size + 1; omega))]
    exact k0
  case done =>
    rintro D ys W hD rfl ⟨⟨⟨hc, _⟩, _⟩, hB⟩ hK
    gi_wp2
    refine ⟨by simp, .inl ⟨_, _, rfl, run_takeDeferred hK, ?_⟩⟩
    exact ⟨_, results_tmp rfl _ _ _, rfl, hB.trans (belowK_b (w := w) (Nat.le_refl _) W D _ _ (by simp at hD; omega) hK rfl rfl)⟩
  case stop =>
    rintro D c pre W _ _ h _
    exact h.elim

/-- What digits stand for, the last byte first. -/
def numB (s : ByteArray) : Int := (numG (upto (fromEnd s.data.toList) s.data.toList.length)).1
theorem number_any (s : ByteArray) (hs : s.size ≤ 16) (w : World) :
    Calls Tryd.prog 31 #[.string s] w fun e W' => e = .returned (.int .i64 (numB s)) ∧ Below w.heap.size w W' :=
  (callsIn_wide (n := 3)).1 (number_in Fence.wide 3 trivial trivial trivial rfl (by omega) s hs w)
end Go.Proofs.YtopeblaiifkmoaaDoor
