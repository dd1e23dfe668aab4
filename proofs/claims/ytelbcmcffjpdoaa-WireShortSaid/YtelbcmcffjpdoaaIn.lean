/-
  The reference's reader (a value: bytes, place, error): Raw. Conditions: sizes within the reach.
-/
import Derived.Test.YtelbcmcffjpdoaaPure
import Derived.Deep.RegionHeld3
import Derived.Deep.RegionHeld
namespace Go.Proofs.Ytelbcmcffjpdoaa
open Go.RowKit

/-- The reference's reader at place p with the error k. -/
def inV (x : Value) (p : Nat) (k : Int) : Value := .agg #[x, .int .i64 p, .int .i64 k]

theorem two_boxes (w : World) (o1 o2 o3 : Obj) : (((w.alloc o1).alloc o2).alloc o3).heap[w.heap.size]? = some o1 ∧ (((w.alloc o1).alloc o2).alloc o3).heap[w.heap.size + 1]? = some o2 := by
  have hs : (w.alloc o1).heap.size = w.heap.size + 1 := by simp
  have hs2 : ((w.alloc o1).alloc o2).heap.size = w.heap.size + 2 := by simp
  constructor
  · rw [Below.heap_alloc _ _ _ (by omega), Below.heap_alloc _ _ _ (by omega)]
    exact heap_alloc_new w o1
  · rw [Below.heap_alloc _ _ _ (by omega), ← hs]
    exact heap_alloc_new _ o2

set_option maxHeartbeats 1600000 in
theorem fraw_any (B : Nat) (x : Value) (bs : List UInt8) (p : Nat) (k n : Int) (w : World) (hx : Byt w B x bs) (hB : B ≤ w.heap.size) (hp : p ≤ bs.length) (hl : bs.length ≤ 60000) (hn0 : -5000 ≤ n) (hn1 : n ≤ 5000) (hk0 : 0 ≤ k) (hk1 : k ≤ 9) :
    Calls Try.prog 55 #[inV x p k, .int .i64 n] w fun e w' =>
      (∃ z q, e = .returned (.tuple #[z, inV x q (rawR n k (bs.drop p)).2.1]) ∧ Byt w' w'.heap.size z (rawR n k (bs.drop p)).1 ∧ q ≤ bs.length ∧ bs.drop q = (rawR n k (bs.drop p)).2.2) ∧ Below w.heap.size w w' := by
  obtain ⟨i0, hi, hz0, hz1, hz2⟩ := info_parts info_u8
  obtain ⟨A, c, rfl⟩ := hx.form
  have hcap := hx.cap
  unfold inV
  by_cases hk : k = 0
  · subst hk
    by_cases hend : n > (bs.length : Int) - p
    · have hr : rawR n 0 (bs.drop p) = ([], 4, bs.drop p) := by unfold rawR; rw [if_neg (by decide), if_pos (by rw [List.length_drop]; omega)]
      rw [hr]
      clear hr
      go_enter Try.func55, Try.ntmps55
      go_wp2_with fail
      go_region
      go_wp2
      refine bodyPost_ret (v := .tuple #[.slice none 0 0, .agg #[.slice A bs.length c, .int .i64 p, .int .i64 4]]) (by simp [results, Try.results55, go_sem]) rfl ⟨⟨_, p, rfl, Byt.nil _ _, hp, rfl⟩, (((Below.refl _ _).alloc (Nat.le_refl _) _).alloc (by simp) _).drew⟩
    by_cases hpos : n ≤ 0
    · have hr : rawR n 0 (bs.drop p) = ([], 0, bs.drop p) := by
        unfold rawR
        rw [if_neg (by decide), if_neg (by rw [List.length_drop]; omega)]
        have : n.toNat = 0 := by omega
        rw [this]
        simp
      rw [hr]
      clear hr
      go_enter Try.func55, Try.ntmps55
      go_wp2_with fail
      go_region
      go_wp2
      refine bodyPost_ret (v := .tuple #[.slice none 0 0, .agg #[.slice A bs.length c, .int .i64 p, .int .i64 0]]) (by simp [results, Try.results55, go_sem]) rfl ⟨⟨_, p, rfl, Byt.nil _ _, hp, rfl⟩, (((Below.refl _ _).alloc (Nat.le_refl _) _).alloc (by simp) _).drew⟩
    · obtain ⟨m, rfl⟩ := Int.eq_ofNat_of_zero_le (by omega : 0 ≤ n)
      have hr : rawR m 0 (bs.drop p) = ((bs.drop p).take m, 0, (bs.drop p).drop m) := by
        unfold rawR
        rw [if_neg (by decide), if_neg (by rw [List.length_drop]; omega), Int.toNat_natCast]
      rw [hr]
      have hsrc : Byt w B (.slice (A.map fun x => x.add p) m (c - p)) ((bs.drop p).take m) := by
        have h1 := hx.drop_ (k := p) hp (by omega)
        have hdl : (bs.drop p).length = bs.length - p := List.length_drop
        rw [← hdl] at h1
        exact h1.take_ (k := m) (by omega)
      obtain ⟨zs, hzs⟩ : ∃ zs, zs = (bs.drop p).take m := ⟨_, rfl⟩
      have hzl : zs.length = m := by rw [hzs, List.length_take, List.length_drop]; omega
      rw [← hzs] at hsrc ⊢
      have hq : p + m ≤ bs.length ∧ bs.drop (p + m) = (bs.drop p).drop m := ⟨by omega, by rw [List.drop_drop]⟩
      rw [← hq.2]
      have hown : ∀ o1 o2, (((w.alloc o1).alloc o2).alloc (.cells #[] 5)).ownsRow w.heap.size 5 1 (.slice (some ⟨w.heap.size + 1 + 1, 0, none⟩) 0 0) 0 [] := by
        intro o1 o2
        have h := World.ownsRow_made ((w.alloc o1).alloc o2) #[] 0 (base := w.heap.size) (e := 5) (size := 1) (by simp; omega) (by unfold maxLen; omega) rfl
        simpa using h
      have hsrc3 : ∀ o1 o2 o3, Byt (((w.alloc o1).alloc o2).alloc o3) B (.slice (A.map fun x => x.add p) m (c - p)) zs := fun o1 o2 o3 =>
        hsrc.below ((((Below.refl B w).alloc hB o1).alloc (by simp; omega) o2).alloc (by simp; omega) o3)
      have hs3 : ∀ o1 o2 o3, (((w.alloc o1).alloc o2).alloc o3).heap.size = w.heap.size + 3 := by intro o1 o2 o3; simp
      have HS3 := Lib.hid hs3
      clear hs3
      have HB3 := Lib.hid hsrc3
      clear hsrc3
      have HS := Lib.hid hsrc
      have HZ := Lib.hid hzl
      have HQ := Lib.hid hq
      have HO := Lib.hid hown
      clear hr hsrc hzl hzs hq hown hx
      go_enter Try.func55, Try.ntmps55
      go_wp2_with (at_builtin; (refine wpList_append_bytes rfl (.tmp 24) (.tmp 33) 24 rfl w.heap.size 5 i0 slice_u8 hi hz0 hz1 hz2 (.slice (some ⟨w.heap.size + 1 + 1, 0, none⟩) 0 0) 0 [] rfl (HO.out _ _) B (.slice (A.map fun x => x.add p) m (c - p)) zs (congrArg (fun j => Value.slice (A.map fun x => x.add p) j (c - p)) (by omega : p + m - p = m)) (HB3.out _ _ _) (by rw [HZ.out]; omega) (by rw [HS3.out]; omega) ?_); (intro v1 w1 hown1 hg1 hat1; rw [Nat.zero_add, HZ.out, List.nil_append] at hown1; obtain ⟨A1, c1, rfl⟩ := own_form hown1; have hX := two_boxes w (.cells #[.slice A bs.length c, .int .i64 p, .int .i64 0] 51) (.cells #[.slice none 0 0, .int .i64 0, .int .i64 0] 51) (.cells #[] 5); have hX1 := (hg1.block w.heap.size (by rw [HS3.out]; omega) (by simp only [Value.ownBlock]; intro e; injection e with e; omega)).trans hX.1; have hX2 := (hg1.block (w.heap.size + 1) (by rw [HS3.out]; omega) (by simp only [Value.ownBlock]; intro e; injection e with e; omega)).trans hX.2; have e0 := cell_of_row w1 w.heap.size 0 _ _ _ hX1; have e1 := cell_of_row w1 w.heap.size 1 _ _ _ hX1; have e2 := cell_of_row w1 w.heap.size 2 _ _ _ hX1; have d0 := cell_of_row w1 (w.heap.size + 1) 0 _ _ _ hX2; have d1 := cell_of_row w1 (w.heap.size + 1) 1 _ _ _ hX2; have d2 := cell_of_row w1 (w.heap.size + 1) 2 _ _ _ hX2; have fr1 : ∀ j, w1.frozen? ⟨w.heap.size, j, none⟩ = false := (fun j => by simp [World.frozen?, hX1]); have fr2 : ∀ j, w1.frozen? ⟨w.heap.size + 1, j, none⟩ = false := (fun j => by simp [World.frozen?, hX2]); have HG1 := Lib.hid hg1; have HO1 := Lib.hid hown1; have HX1 := Lib.hid hX1; have HX2 := Lib.hid hX2; clear hX hX1 hX2 hg1 hown1 hat1))
      go_region
      go_wp2
      refine bodyPost_ret (v := .tuple #[.slice A1 m c1, .agg #[.slice A bs.length c, .int .i64 (p + m : Nat), .int .i64 0]]) (by simp [results, Try.results55, go_sem, d0, d1, d2]) rfl ⟨⟨_, p + m, rfl, ?_, HQ.out.1, rfl⟩, ?_⟩
      · have ht : Turns (fun k => k = w.heap.size ∨ k = w.heap.size + 1) w1 _ := (((((Turns.refl _ w1).setCell (p := ⟨w.heap.size, 1, none⟩) (fun _ => .inl rfl) (.int .i64 (p + m))).setCell (p := ⟨w.heap.size + 1, 0, none⟩) (fun _ => .inr rfl) (.slice A bs.length c)).setCell
          (p := ⟨w.heap.size + 1, 1, none⟩) (fun _ => .inr rfl) (.int .i64 (p + m))).setCell (p := ⟨w.heap.size + 1, 2, none⟩) (fun _ => .inr rfl) (.int .i64 0)).drew
        have h := own_turns HO1.out ht (fun k hk => by
          rintro (e | e)
          · subst e; exact own_block_other HO1.out HX1.out (by decide) hk
          · subst e; exact own_block_other HO1.out HX2.out (by decide) hk)
        rw [← HZ.out] at h ⊢
        exact Byt.of_own h
      · have hb := (((Below.refl w.heap.size w).alloc (Nat.le_refl _) (.cells #[.slice A bs.length c, .int .i64 p, .int .i64 0] 51)).alloc (by simp) (.cells #[.slice none 0 0, .int .i64 0, .int .i64 0] 51)).alloc (by simp; omega) (.cells #[] 5)
        have hb1 := hb.grown HG1.out (by rw [HS3.out]; omega) (fun k hk => by simp [Value.ownBlock] at hk; omega)
        exact ((((hb1.setCell (Nat.le_refl _) _).setCell (by simp) _).setCell (by simp) _).setCell (by simp) _).drew
  · have hr : rawR n k (bs.drop p) = ([], k, bs.drop p) := by unfold rawR; rw [if_pos hk]
    rw [hr]
    have hb : (k == 0) = false := by simpa using hk
    clear hr
    go_enter Try.func55, Try.ntmps55
    go_wp2_with fail
    go_region
    go_wp2
    refine bodyPost_ret (v := .tuple #[.slice none 0 0, .agg #[.slice A bs.length c, .int .i64 p, .int .i64 k]]) (by simp [results, Try.results55, go_sem]) rfl ⟨⟨_, p, rfl, Byt.nil _ _, hp, rfl⟩, (((Below.refl _ _).alloc (Nat.le_refl _) _).alloc (by simp) _).drew⟩

theorem val_step {xs : List UInt8} {j : Nat} (hj : j < xs.length) : val (xs.drop j) = (xs[j].toNat : Int) + 256 * val (xs.drop (j + 1)) := by
  rw [List.drop_eq_getElem_cons hj]
  rfl

theorem val_le7 {xs : List UInt8} (h : xs.length ≤ 7) : val xs < 72057594037927936 := by
  have h1 := (val_bd xs).2
  have h2 : (256 : Nat) ^ xs.length ≤ 256 ^ 7 := Nat.pow_le_pow_right (by decide) h
  have h3 : (256 : Nat) ^ 7 = 72057594037927936 := by decide
  have h4 : ((256 ^ xs.length : Nat) : Int) = (256 : Int) ^ xs.length := Int.natCast_pow _ _
  omega

set_option maxHeartbeats 800000 in
theorem fval_any (B : Nat) (x : Value) (xs : List UInt8) (w : World) (hx : Byt w B x xs) (hl : xs.length ≤ 8) :
    Calls Try.prog 65 #[x] w fun e w' => e = .returned (.int .u64 (val xs)) ∧ w = w' := by
  obtain ⟨A, c, rfl⟩ := hx.form
  have hcap := hx.cap
  have HX := Lib.hid hx
  clear hx
  go_enter Try.func65, Try.ntmps65
  go_wp2_with fail
  go_loopw [3, 4] (fun s t wr => ∃ j : Nat, j ≤ xs.length ∧ t = .int .i64 ((j : Int) - 1) ∧ s = .int .u64 (val (xs.drop j)) ∧ wr = w) (fun _ t _ => (intOf t + 1).toNat)
  case atStart => exact ⟨xs.length, Nat.le_refl _, rfl, by rw [List.drop_length]; rfl, rfl⟩
  case round =>
    obtain ⟨j, hj, rfl, rfl, rfl⟩ := hrel
    rcases j with _ | j
    · rw [List.drop_zero]
      go_wp2
      go_ret
      exact ⟨rfl, rfl⟩
    · obtain ⟨A', c', e0, _, _, _, h4⟩ := HX.out
      injection e0 with e1 e2 e3
      subst e1 e3
      obtain ⟨b, o, rfl, _, hbc⟩ := h4 (by intro e; rw [e] at hj; exact absurd hj (by simp))
      have hci := hbc j _ (List.getElem?_eq_getElem (by omega : j < xs.length))
      have hstep := val_step (xs := xs) (j := j) (by omega)
      have hbd := val_bd (xs.drop (j + 1))
      have hpw := val_le7 (xs := xs.drop (j + 1)) (by rw [List.length_drop]; omega)
      obtain ⟨V, hV⟩ : ∃ V, V = val (xs.drop (j + 1)) := ⟨_, rfl⟩
      obtain ⟨q, hq⟩ : ∃ q, q = xs[j] := ⟨_, rfl⟩
      have hv0 : 0 ≤ V ∧ V < 72057594037927936 := by rw [hV]; exact ⟨hbd.1, hpw⟩
      have hqb : (q.toNat : Int) < 256 := by have := q.toNat_lt; omega
      rw [← hV, ← hq] at hstep
      rw [← hV]
      rw [← hq] at hci
      replace hci : wr.cell? ⟨b, o + j, none⟩ = some (.int .u8 (q.toNat : Int)) := hci
      have HT := Lib.hid hstep
      clear hstep hbd hpw hV hq hbc h4 e2
      go_wp2
      refine ⟨⟨j, by omega, rfl, ?_, trivial⟩, by simp [intOf]⟩
      rw [HT.out]
      go_num

end Go.Proofs.Ytelbcmcffjpdoaa
