/-
  What is pushed is parsed as one operation; the reference's Push. Conditions: sizes within the reach.
-/
import Derived.Test.YtadgaeokiolmmaaSnLawN
namespace Go.Proofs.Ytadgaeokiolmmaa
open Go.RowKit

theorem val_low (k : Nat) : ∀ n : Int, 0 ≤ n → val (low n k) = n % 256 ^ k := by
  induction k with
  | zero => intro n _; simp [low, val, Int.emod_one]
  | succ k ih =>
    intro n hn
    have h := ih (n / 256) (by omega)
    simp only [low, val, b8_toNat, h]
    have hp : (0 : Int) < 256 ^ k := Int.pow_pos (by decide)
    rw [Int.pow_succ, Int.mul_comm (256 ^ k) 256]
    have e1 : n % (256 * 256 ^ k) = n % 256 + 256 * (n / 256 % 256 ^ k) := by
      have h1 : n = 256 * (n / 256) + n % 256 := (Int.mul_ediv_add_emod n 256).symm
      have h2 : n / 256 = 256 ^ k * (n / 256 / 256 ^ k) + n / 256 % 256 ^ k := (Int.mul_ediv_add_emod (n / 256) (256 ^ k)).symm
      have h3 : 0 ≤ n / 256 % 256 ^ k ∧ n / 256 % 256 ^ k < 256 ^ k := ⟨Int.emod_nonneg _ (by omega), Int.emod_lt_of_pos _ hp⟩
      have h4 : n = (n % 256 + 256 * (n / 256 % 256 ^ k)) + (256 * 256 ^ k) * (n / 256 / 256 ^ k) := by
        have h5 : 256 * (n / 256) = 256 * (256 ^ k * (n / 256 / 256 ^ k)) + 256 * (n / 256 % 256 ^ k) := by
          rw [← Int.mul_add]; exact congrArg (fun q => 256 * q) h2
        rw [Int.mul_assoc]
        omega
      have h6 : (n % 256 + 256 * (n / 256 % 256 ^ k)) % (256 * 256 ^ k) = n % 256 + 256 * (n / 256 % 256 ^ k) := by
        apply Int.emod_eq_of_lt
        · omega
        · omega
      calc n % (256 * 256 ^ k) = ((n % 256 + 256 * (n / 256 % 256 ^ k)) + (256 * 256 ^ k) * (n / 256 / 256 ^ k)) % (256 * 256 ^ k) := by rw [← h4]
        _ = (n % 256 + 256 * (n / 256 % 256 ^ k)) % (256 * 256 ^ k) := by rw [Int.add_mul_emod_self_left]
        _ = _ := h6
    rw [e1]

theorem take_app {us bs : List UInt8} {k : Nat} (h : us.length = k) : (us ++ bs).take k = us := by rw [← h, List.take_left]
theorem drop_app {us bs : List UInt8} {k : Nat} (h : us.length = k) : (us ++ bs).drop k = bs := by rw [← h, List.drop_left]

theorem numR_low (n : Int) (k : Nat) (ys : List UInt8) (hn : 0 ≤ n) : numR k 0 (low n k ++ ys) = (n % 256 ^ k, 0, ys) := by
  unfold numR
  rw [if_neg (by decide), if_neg (by rw [List.length_append, low_length]; omega), take_app (low_length n k), drop_app (low_length n k), val_low k n hn]


theorem rawR_app (ds zs : List UInt8) : rawR (ds.length : Int) 0 (ds ++ zs) = (ds, 0, zs) := by
  unfold rawR
  rw [if_neg (by decide), if_neg (by rw [List.length_append]; omega), Int.toNat_natCast, List.take_left, List.drop_left]
theorem opR_none {c : UInt8} (h : c.toNat = 0 ∨ 79 ≤ c.toNat) (xs : List UInt8) : opR c xs = ([], 0, xs) := by
  have hs : sizeD c xs = (0, 0, xs) := by
    unfold sizeD
    rcases h with h | h
    · rw [if_pos (by omega), h]; rfl
    · rw [if_neg (by omega), if_neg (by omega), if_neg (by omega), if_neg (by omega)]
  unfold opR
  rw [hs]
  have := rawR_app [] xs
  exact this
theorem alone_code {xs : List UInt8} {c : UInt8} (h : aloneB xs = some c) : (c.toNat = 0 ∨ 79 ≤ c.toNat) ∧ c.toNat ≤ 96 := by
  match xs, h with
  | [], h => cases h; exact ⟨.inl rfl, by decide⟩
  | [q], h =>
    rw [alone_one] at h
    split at h
    · cases h; exact ⟨.inr (by decide), by decide⟩
    · split at h
      · cases h
        have : (UInt8.ofNat (80 + q.toNat)).toNat = 80 + q.toNat := by rw [UInt8.toNat_ofNat']; omega
        rw [this]
        omega
      · cases h
  | _ :: _ :: _, h => cases h
/-- The bytes that stand behind the code. -/
def behind (ds : List UInt8) : List UInt8 := if aloneB ds = none then ds else []
theorem push_op (ds : List UInt8) (hl : ds.length ≤ 47000000) : ∃ c rest, pushB ds = c :: rest ∧ (∀ zs, opR c (rest ++ zs) = (behind ds, 0, zs)) ∧ c.toNat ≤ 96 ∧ (aloneB ds = none → c.toNat < 79) ∧ (∀ k, aloneB ds = some k → c = k) := by
  cases h : aloneB ds with
  | some c =>
    obtain ⟨h1, h2⟩ := alone_code h
    refine ⟨c, [], by unfold pushB; rw [h], fun zs => ?_, h2, (by intro e; cases e), fun k hk => by cases hk; rfl⟩
    rw [List.nil_append, opR_none h1]
    unfold behind
    rw [h, if_neg (by simp)]
  | none =>
    have hb : behind ds = ds := by unfold behind; rw [h, if_pos rfl]
    have hp : pushB ds = headB ds.length ++ ds := by unfold pushB; rw [h]
    rw [hb, hp]
    have hn : (b8 (ds.length : Int)).toNat = ds.length % 256 := by have := b8_toNat (ds.length : Int); omega
    by_cases c1 : ds.length < 76
    · refine ⟨b8 (ds.length : Int), ds, by unfold headB; rw [if_pos c1]; rfl, fun zs => ?_, by omega, fun _ => by omega, (by intro k hk; cases hk)⟩
      unfold opR sizeD
      rw [if_pos (by omega)]
      dsimp only
      rw [hn, Nat.mod_eq_of_lt (by omega)]
      exact rawR_app ds zs
    by_cases c2 : ds.length ≤ 255
    · refine ⟨76, b8 (ds.length : Int) :: ds, by unfold headB; rw [if_neg c1, if_pos c2]; rfl, fun zs => ?_, by decide, fun _ => by decide, (by intro k hk; cases hk)⟩
      unfold opR sizeD
      rw [if_neg (by decide), if_pos (by decide), List.cons_append, numR_one]
      dsimp only
      rw [hn, Nat.mod_eq_of_lt (by omega)]
      exact rawR_app ds zs
    by_cases c3 : ds.length ≤ 65535
    · refine ⟨77, low (ds.length : Int) 2 ++ ds, by unfold headB; rw [if_neg c1, if_neg c2, if_pos c3]; rfl, fun zs => ?_, by decide, fun _ => by decide, (by intro k hk; cases hk)⟩
      unfold opR sizeD
      rw [if_neg (by decide), if_neg (by decide), if_pos (by decide), List.append_assoc, numR_low _ _ _ (by omega)]
      dsimp only
      rw [show (ds.length : Int) % 256 ^ 2 = (ds.length : Int) by omega]
      exact rawR_app ds zs
    · refine ⟨78, low (ds.length : Int) 4 ++ ds, by unfold headB; rw [if_neg c1, if_neg c2, if_neg c3]; rfl, fun zs => ?_, by decide, fun _ => by decide, (by intro k hk; cases hk)⟩
      unfold opR sizeD
      rw [if_neg (by decide), if_neg (by decide), if_neg (by decide), if_pos (by decide), List.append_assoc, numR_low _ _ _ (by omega)]
      dsimp only
      rw [show min ((ds.length : Int) % 256 ^ 4) 2147483647 = (ds.length : Int) by omega]
      exact rawR_app ds zs
/-- Two pushes, one behind the other. -/
theorem push_two (ds es : List UInt8) (hd : ds.length ≤ 47000000) (he : es.length ≤ 47000000) :
    ∃ c1 c2, parseP (pushB ds ++ pushB es) = some [(c1, behind ds), (c2, behind es)] ∧ (aloneB ds = none → c1.toNat < 79) ∧ (∀ k, aloneB ds = some k → c1 = k) := by
  obtain ⟨c1, r1, e1, o1, _, k1, k2⟩ := push_op ds hd
  obtain ⟨c2, r2, e2, o2, _, _, _⟩ := push_op es he
  refine ⟨c1, c2, ?_, k1, k2⟩
  have h2 : parseP (pushB es) = some [(c2, behind es)] := by
    have := o2 []
    rw [List.append_nil] at this
    rw [e2, parseP_ok (by rw [this]), this, parseP_nil]
    rfl
  rw [e1, List.cons_append, parseP_ok (by rw [o1]), o1, h2]
  rfl
theorem push_pushes (ds : List UInt8) (hd : ds.length ≤ 47000000) : pushesB (pushB ds) = true := by
  obtain ⟨c1, r1, e1, o1, l1, _, _⟩ := push_op ds hd
  have := o1 []
  rw [List.append_nil] at this
  have h2 : parseP (pushB ds) = some [(c1, behind ds)] := by
    rw [e1, parseP_ok (by rw [this]), this, parseP_nil]
    rfl
  unfold pushesB
  rw [h2]
  simp
  omega

set_option maxRecDepth 100000 in
set_option maxHeartbeats 3200000 in
theorem rpush_head (B : Nat) (x : Value) (xs : List UInt8) (h : aloneB xs = none ∨ xs = []) (w : World) (hx : Byt w B x xs) (hB : B ≤ w.heap.size) (hl : xs.length ≤ 47000000) :
    Calls Try.prog 19 #[x] w (Fresh w (pushB xs)) := by
  obtain ⟨i0, hi, hz0, hz1, hz2⟩ := info_parts info_u8
  have hp : pushB xs = headB xs.length ++ xs := by
    rcases h with h | rfl
    · unfold pushB; rw [h]
    · rfl
  have HX := Lib.hid hx
  by_cases h1 : xs.length = 1
  · match xs, h1 with
    | [q], _ =>
    obtain ⟨A, c, rfl, _, _, _, h4⟩ := hx
    obtain ⟨b, o, rfl, hb, hc⟩ := h4 (by simp)
    have hcell : w.cell? ⟨b, o, none⟩ = some (.int .u8 (q.toNat : Int)) := hc 0 q rfl
    have hq := q.toNat_lt
    rw [alone_one] at h
    have hq1 : ((q.toNat : Int) == 129) = false := by
      have : q ≠ 129 := by rintro rfl; simp at h
      have : q.toNat ≠ 129 := fun e => this (u8_ext e)
      simp only [beq_eq_false_iff_ne, ne_eq]; omega
    have hq2 : ¬ (1 ≤ q.toNat ∧ q.toNat ≤ 16) := fun hh => by
      rcases h with h | h
      · split at h
        · cases h
        · first | cases h | (rw [if_pos hh] at h; cases h)
      · simp at h
    clear h4 hc h hl
    obtain ⟨xs, hxs⟩ : ∃ xs, xs = [q] := ⟨_, rfl⟩
    have hxl : xs.length = 1 := by rw [hxs]; rfl
    rw [← hxs] at hp HX ⊢
    rw [hxl] at HX hp ⊢
    clear hxs
    by_cases hz : 1 ≤ q.toNat
    · have d1 : decide ((1 : Int) ≤ (q.toNat : Int)) = true := decide_eq_true (by omega)
      have d1' : (1 : Int) ≤ (q.toNat : Int) := by omega
      have d2 : decide ((q.toNat : Int) ≤ 16) = false := decide_eq_false (by omega)
      clear hz hq2
      have HOWN := Lib.hid (own_made w 5 [.int .u8 1] ([b8 1]) (by simp [bv_b8]) (by unfold maxLen; simp))
      have HXX := Lib.hid (HX.out.below (((Below.refl _ w).alloc (Nat.le_refl _) (.cells #[.int .u8 1] 5)).mono hB))
      have HBB := Lib.hid ((Below.refl _ w).alloc (Nat.le_refl _) (.cells #[.int .u8 1] 5))
      have HSZ : Hid (w.heap.size ≤ (w.alloc (.cells #[.int .u8 1] 5)).heap.size) := Lib.hid (by simp)
      have HH : Hid (pushB xs = ([b8 1]) ++ xs) := Lib.hid (by rw [hp]; unfold headB; rfl)
      clear hp HX
      go_enter Try.func19, Try.ntmps19
      go_wp2_with (at_builtin; refine wpList_append_bytes rfl (.tmp 60) (.tmp 61) 22 rfl w.heap.size 5 i0 slice_u8 hi hz0 hz1 hz2 _ 1 (([b8 1]).map bv) rfl HOWN.out B _ xs rfl HXX.out (by rw [hxl]; simp) (by have := HSZ.out; omega) ?_; intro v9 w9 hown9 hg9 hat9)
      go_ret
      have h9 := own_b hown9 (by simp)
      rw [← HH.out] at h9
      exact fresh_own h9 (HBB.out.grown hg9 (by have := HSZ.out; omega) (fun j hj => (World.ownsRow.lt HOWN.out j hj).1))
    · have d1 : decide ((1 : Int) ≤ (q.toNat : Int)) = false := decide_eq_false (by omega)
      clear hz hq2
      have HOWN := Lib.hid (own_made w 5 [.int .u8 1] ([b8 1]) (by simp [bv_b8]) (by unfold maxLen; simp))
      have HXX := Lib.hid (HX.out.below (((Below.refl _ w).alloc (Nat.le_refl _) (.cells #[.int .u8 1] 5)).mono hB))
      have HBB := Lib.hid ((Below.refl _ w).alloc (Nat.le_refl _) (.cells #[.int .u8 1] 5))
      have HSZ : Hid (w.heap.size ≤ (w.alloc (.cells #[.int .u8 1] 5)).heap.size) := Lib.hid (by simp)
      have HH : Hid (pushB xs = ([b8 1]) ++ xs) := Lib.hid (by rw [hp]; unfold headB; rfl)
      clear hp HX
      go_enter Try.func19, Try.ntmps19
      go_wp2_with (at_builtin; refine wpList_append_bytes rfl (.tmp 60) (.tmp 61) 22 rfl w.heap.size 5 i0 slice_u8 hi hz0 hz1 hz2 _ 1 (([b8 1]).map bv) rfl HOWN.out B _ xs rfl HXX.out (by rw [hxl]; simp) (by have := HSZ.out; omega) ?_; intro v9 w9 hown9 hg9 hat9)
      go_ret
      have h9 := own_b hown9 (by simp)
      rw [← HH.out] at h9
      exact fresh_own h9 (HBB.out.grown hg9 (by have := HSZ.out; omega) (fun j hj => (World.ownsRow.lt HOWN.out j hj).1))
  · obtain ⟨A, c, hxf⟩ := hx.form
    subst hxf
    have hcap := hx.cap
    have hne : ((xs.length : Int) == 1) = false := by simp only [beq_eq_false_iff_ne, ne_eq]; omega
    clear hx h h1
    by_cases c1 : xs.length < 76
    · have hm : (xs.length : Int) % 256 = xs.length := by omega
      have d1 : decide ((xs.length : Int) ≤ 75) = true := decide_eq_true (by omega)
      have hbb : bv (b8 (xs.length : Int)) = .int .u8 (xs.length : Int) := by rw [bv_b8, hm]
      clear hm
      have HOWN := Lib.hid (own_made w 5 [.int .u8 (xs.length : Int)] ([b8 (xs.length : Int)]) (by rw [List.map_cons, hbb]; rfl) (by unfold maxLen; simp))
      have HXX := Lib.hid (HX.out.below (((Below.refl _ w).alloc (Nat.le_refl _) (.cells #[.int .u8 (xs.length : Int)] 5)).mono hB))
      have HBB := Lib.hid ((Below.refl _ w).alloc (Nat.le_refl _) (.cells #[.int .u8 (xs.length : Int)] 5))
      have HSZ : Hid (w.heap.size ≤ (w.alloc (.cells #[.int .u8 (xs.length : Int)] 5)).heap.size) := Lib.hid (by simp)
      have HH : Hid (pushB xs = ([b8 (xs.length : Int)]) ++ xs) := Lib.hid (by rw [hp]; unfold headB; rw [if_pos c1])
      clear hp HX hbb
      go_enter Try.func19, Try.ntmps19
      go_wp2_with (at_builtin; refine wpList_append_bytes rfl (.tmp 60) (.tmp 61) 22 rfl w.heap.size 5 i0 slice_u8 hi hz0 hz1 hz2 _ 1 (([b8 (xs.length : Int)]).map bv) rfl HOWN.out B _ xs rfl HXX.out (by omega) (by have := HSZ.out; omega) ?_; intro v9 w9 hown9 hg9 hat9)
      go_ret
      have h9 := own_b hown9 (by simp)
      rw [← HH.out] at h9
      exact fresh_own h9 (HBB.out.grown hg9 (by have := HSZ.out; omega) (fun j hj => (World.ownsRow.lt HOWN.out j hj).1))
    by_cases c2 : xs.length ≤ 255
    · have hm : (xs.length : Int) % 256 = xs.length := by omega
      have d1 : decide ((xs.length : Int) ≤ 75) = false := decide_eq_false (by omega)
      have d2 : decide ((xs.length : Int) ≤ 255) = true := decide_eq_true (by omega)
      have hbb : bv (b8 (xs.length : Int)) = .int .u8 (xs.length : Int) := by rw [bv_b8, hm]
      clear hm
      have HOWN := Lib.hid (own_made w 5 [.int .u8 76, .int .u8 (xs.length : Int)] ([76, b8 (xs.length : Int)]) (by rw [List.map_cons, List.map_cons, hbb]; rfl) (by unfold maxLen; simp))
      have HXX := Lib.hid (HX.out.below (((Below.refl _ w).alloc (Nat.le_refl _) (.cells #[.int .u8 76, .int .u8 (xs.length : Int)] 5)).mono hB))
      have HBB := Lib.hid ((Below.refl _ w).alloc (Nat.le_refl _) (.cells #[.int .u8 76, .int .u8 (xs.length : Int)] 5))
      have HSZ : Hid (w.heap.size ≤ (w.alloc (.cells #[.int .u8 76, .int .u8 (xs.length : Int)] 5)).heap.size) := Lib.hid (by simp)
      have HH : Hid (pushB xs = ([76, b8 (xs.length : Int)]) ++ xs) := Lib.hid (by rw [hp]; unfold headB; rw [if_neg c1, if_pos c2])
      clear hp HX hbb
      go_enter Try.func19, Try.ntmps19
      go_wp2_with (at_builtin; refine wpList_append_bytes rfl (.tmp 60) (.tmp 61) 22 rfl w.heap.size 5 i0 slice_u8 hi hz0 hz1 hz2 _ 2 (([76, b8 (xs.length : Int)]).map bv) rfl HOWN.out B _ xs rfl HXX.out (by omega) (by have := HSZ.out; omega) ?_; intro v9 w9 hown9 hg9 hat9)
      go_ret
      have h9 := own_b hown9 (by simp)
      rw [← HH.out] at h9
      exact fresh_own h9 (HBB.out.grown hg9 (by have := HSZ.out; omega) (fun j hj => (World.ownsRow.lt HOWN.out j hj).1))
    by_cases c3 : xs.length ≤ 65535
    · have d1 : decide ((xs.length : Int) ≤ 75) = false := decide_eq_false (by omega)
      have d2 : decide ((xs.length : Int) ≤ 255) = false := decide_eq_false (by omega)
      have d3 : decide ((xs.length : Int) ≤ 65535) = true := decide_eq_true (by omega)
      have HH : Hid (pushB xs = ([77] ++ low (xs.length : Int) 2) ++ xs) := Lib.hid (by rw [hp]; unfold headB; rw [if_neg c1, if_neg c2, if_pos c3]; rfl)
      clear hp
      go_enter Try.func19, Try.ntmps19
      go_wp2_with fail
      refine (low_any (xs.length : Int) 2 _ (by omega) (by omega) (by omega)).mono ?_
      intro e w3 hfr
      obtain ⟨u3, rfl, hown3, hb3⟩ := fresh_v hfr
      obtain ⟨A3, c3, rfl⟩ := hown3.form
      have s3 := hb3.size
      rw [World.size_alloc] at s3
      have hown2 : w3.ownsRow w.heap.size 5 1 (.slice (some ⟨w.heap.size, 0, none⟩) 1 1) 1 (([77] : List UInt8).map bv) := own_turns (own_made w 5 [.int .u8 77] [77] rfl (by unfold maxLen; simp)) (Turns.of_below (S := fun _ => False) hb3) (fun _ _ h => h)
      have HW2 := Lib.hid hown2
      have HB3 := Lib.hid (((Below.refl _ w).alloc (Nat.le_refl _) _).trans (hb3.mono (by simp)))
      have HY3 := Lib.hid (Byt.of_own hown3)
      have HS3 := Lib.hid s3
      have HL3 := Lib.hid (low_length (xs.length : Int) 2)
      have HN9 : Hid (([77] ++ low (xs.length : Int) 2 : List UInt8).length + xs.length ≤ 140737488355328) := Lib.hid (by rw [List.length_append, HL3.out, List.length_cons, List.length_nil]; omega)
      clear hfr hown3 hb3 hown2 s3
      go_wp2_with (first | (at_builtin; refine wpList_append_bytes rfl (.tmp 55) (.tmp 58) 22 rfl w.heap.size 5 i0 slice_u8 hi hz0 hz1 hz2 _ 1 (([77] : List UInt8).map bv) rfl HW2.out _ _ (low (xs.length : Int) 2) rfl HY3.out (by have := HL3.out; omega) (by have := HS3.out; omega) ?_; intro v5 w5 hown5 hg5 hat5; have ho5 := own_b hown5 (by simp); have hT5 := ((Turns.refl (fun k => (Value.slice (some ⟨w.heap.size, 0, none⟩) 1 1).ownBlock = some k) w3).grown hg5 (fun k hk _ => hk)); have HOWN := Lib.hid ho5; have HBB := Lib.hid (HB3.out.trans (hT5.below_of (by have := HS3.out; omega) (fun i hi e => by simp [Value.ownBlock] at e; omega))); have HXX := Lib.hid (HX.out.below (HBB.out.mono hB)); have HSZ := Lib.hid HBB.out.size; clear hown5 hg5 hat5 ho5 hT5) | (at_builtin; refine wpList_append_bytes rfl (.tmp 60) (.tmp 61) 22 rfl w.heap.size 5 i0 slice_u8 hi hz0 hz1 hz2 _ _ _ rfl HOWN.out B _ xs rfl HXX.out HN9.out HSZ.out ?_; intro v9 w9 hown9 hg9 hat9))
      go_ret
      have h9 := own_b hown9 (by simp [low_length])
      rw [← HH.out] at h9
      exact fresh_own h9 (HBB.out.grown hg9 (by have := HSZ.out; omega) (fun j hj => (World.ownsRow.lt HOWN.out j hj).1))
    · have d1 : decide ((xs.length : Int) ≤ 75) = false := decide_eq_false (by omega)
      have d2 : decide ((xs.length : Int) ≤ 255) = false := decide_eq_false (by omega)
      have d3 : decide ((xs.length : Int) ≤ 65535) = false := decide_eq_false (by omega)
      have HH : Hid (pushB xs = ([78] ++ low (xs.length : Int) 4) ++ xs) := Lib.hid (by rw [hp]; unfold headB; rw [if_neg c1, if_neg c2, if_neg c3]; rfl)
      clear hp
      go_enter Try.func19, Try.ntmps19
      go_wp2_with fail
      refine (low_any (xs.length : Int) 4 _ (by omega) (by omega) (by omega)).mono ?_
      intro e w3 hfr
      obtain ⟨u3, rfl, hown3, hb3⟩ := fresh_v hfr
      obtain ⟨A3, c3, rfl⟩ := hown3.form
      have s3 := hb3.size
      rw [World.size_alloc] at s3
      have hown2 : w3.ownsRow w.heap.size 5 1 (.slice (some ⟨w.heap.size, 0, none⟩) 1 1) 1 (([78] : List UInt8).map bv) := own_turns (own_made w 5 [.int .u8 78] [78] rfl (by unfold maxLen; simp)) (Turns.of_below (S := fun _ => False) hb3) (fun _ _ h => h)
      have HW2 := Lib.hid hown2
      have HB3 := Lib.hid (((Below.refl _ w).alloc (Nat.le_refl _) _).trans (hb3.mono (by simp)))
      have HY3 := Lib.hid (Byt.of_own hown3)
      have HS3 := Lib.hid s3
      have HL3 := Lib.hid (low_length (xs.length : Int) 4)
      have HN9 : Hid (([78] ++ low (xs.length : Int) 4 : List UInt8).length + xs.length ≤ 140737488355328) := Lib.hid (by rw [List.length_append, HL3.out, List.length_cons, List.length_nil]; omega)
      clear hfr hown3 hb3 hown2 s3
      go_wp2_with (first | (at_builtin; refine wpList_append_bytes rfl (.tmp 35) (.tmp 38) 22 rfl w.heap.size 5 i0 slice_u8 hi hz0 hz1 hz2 _ 1 (([78] : List UInt8).map bv) rfl HW2.out _ _ (low (xs.length : Int) 4) rfl HY3.out (by have := HL3.out; omega) (by have := HS3.out; omega) ?_; intro v5 w5 hown5 hg5 hat5; have ho5 := own_b hown5 (by simp); have hT5 := ((Turns.refl (fun k => (Value.slice (some ⟨w.heap.size, 0, none⟩) 1 1).ownBlock = some k) w3).grown hg5 (fun k hk _ => hk)); have HOWN := Lib.hid ho5; have HBB := Lib.hid (HB3.out.trans (hT5.below_of (by have := HS3.out; omega) (fun i hi e => by simp [Value.ownBlock] at e; omega))); have HXX := Lib.hid (HX.out.below (HBB.out.mono hB)); have HSZ := Lib.hid HBB.out.size; clear hown5 hg5 hat5 ho5 hT5) | (at_builtin; refine wpList_append_bytes rfl (.tmp 60) (.tmp 61) 22 rfl w.heap.size 5 i0 slice_u8 hi hz0 hz1 hz2 _ _ _ rfl HOWN.out B _ xs rfl HXX.out HN9.out HSZ.out ?_; intro v9 w9 hown9 hg9 hat9))
      go_ret
      have h9 := own_b hown9 (by simp [low_length])
      rw [← HH.out] at h9
      exact fresh_own h9 (HBB.out.grown hg9 (by have := HSZ.out; omega) (fun j hj => (World.ownsRow.lt HOWN.out j hj).1))

set_option maxHeartbeats 1600000 in
theorem rpush_any (B : Nat) (x : Value) (xs : List UInt8) (w : World) (hx : Byt w B x xs) (hB : B ≤ w.heap.size) (hl : xs.length ≤ 47000000) :
    Calls Try.prog 19 #[x] w (Fresh w (pushB xs)) := by
  by_cases h : aloneB xs = none ∨ xs = []
  · exact rpush_head B x xs h w hx hB hl
  · match xs, h, hx with
    | [], h, _ => exact absurd (.inr rfl) h
    | _ :: _ :: _, h, _ => exact absurd (.inl rfl) h
    | [q], h, hx =>
      obtain ⟨A, c, rfl, _, _, _, h4⟩ := hx
      obtain ⟨b, o, rfl, hb, hc⟩ := h4 (by simp)
      have hcell : w.cell? ⟨b, o, none⟩ = some (.int .u8 (q.toNat : Int)) := hc 0 q rfl
      have hq := q.toNat_lt
      clear h4 hc
      rw [alone_one] at h
      by_cases h0 : q = 129
      · subst h0
        have d1 : decide ((1 : Int) ≤ ((129 : UInt8).toNat : Int)) = true := rfl
        have d2 : decide (((129 : UInt8).toNat : Int) ≤ 16) = false := rfl
        have d3 : (((129 : UInt8).toNat : Int) == 129) = true := rfl
        have hp : pushB [129] = [79] := by decide
        rw [hp]
        go_enter Try.func19, Try.ntmps19
        go_wp2_with fail
        go_ret
        exact fresh_made w [bv 79] [79] rfl (by unfold maxLen; simp)
      · rw [if_neg h0] at h
        by_cases h1 : 1 ≤ q.toNat ∧ q.toNat ≤ 16
        · have hp : pushB [q] = [UInt8.ofNat (80 + q.toNat)] := by unfold pushB; rw [alone_one, if_neg h0, if_pos h1]
          have hv : bv (UInt8.ofNat (80 + q.toNat)) = .int .u8 (80 + (q.toNat : Int)) := by unfold bv; rw [UInt8.toNat_ofNat', Nat.mod_eq_of_lt (by omega)]; rfl
          have d1 : decide ((1 : Int) ≤ (q.toNat : Int)) = true := decide_eq_true (by omega)
          have d1' : (1 : Int) ≤ (q.toNat : Int) := by omega
          have d2 : decide ((q.toNat : Int) ≤ 16) = true := decide_eq_true (by omega)
          have d2' : (q.toNat : Int) ≤ 16 := by omega
          have HV := Lib.hid hv
          rw [hp]
          clear h0 h hv hp
          go_enter Try.func19, Try.ntmps19
          go_wp2_with fail
          go_ret
          exact fresh_made w [.int .u8 (80 + (q.toNat : Int))] [UInt8.ofNat (80 + q.toNat)] (by rw [List.map_cons, HV.out]; rfl) (by unfold maxLen; simp)
        · rw [if_neg h1] at h
          exact absurd (.inl rfl) h
end Go.Proofs.Ytadgaeokiolmmaa
