/-
  The reference's bucket and find. Conditions: numbers of 64 bits; a million that wait at most.
-/
import Derived.Test.YtfhpodeppmnopaaFeRef
namespace Go.Proofs.Ytfhpodeppmnopaa
open Go.RowKit

/-- The lowest rate of a bucket. -/
def lowR (k : Nat) : Int := ((1000 * 2 ^ k : Nat) : Int)
theorem lowR_next (k : Nat) : 2 * lowR k = lowR (k + 1) := by unfold lowR; rw [Nat.pow_succ]; omega
theorem lowR_bound {k : Nat} (hk : k < 24) : 0 < lowR k ∧ 2 * lowR k ≤ 1000000000000 := by
  have hp2 : 2 ^ k ≤ 2 ^ 23 := Nat.pow_le_pow_right (by omega) (by omega)
  have := Nat.two_pow_pos k
  unfold lowR
  omega
theorem lowR_mono {j k : Nat} (h : j ≤ k) : lowR j ≤ lowR k := by
  have := Nat.pow_le_pow_right (n := 2) (by omega) h
  unfold lowR
  omega
theorem bk_unique {r : Int} {k : Nat} (hr : r ≤ 9223372036854775807) (hk : k ≤ 23) (h1 : k = 0 ∨ lowR k ≤ r) (h2 : k = 23 ∨ r < lowR (k + 1)) : bkF r = k := by
  have hb := bkF_le r
  rcases Nat.lt_trichotomy (bkF r) k with h | h | h
  · have h3 := bkF_high r (by omega) hr
    have e : ((2000 * 2 ^ bkF r : Nat) : Int) = lowR (bkF r + 1) := by unfold lowR; rw [Nat.pow_succ]; omega
    rw [e] at h3
    have := lowR_mono (show bkF r + 1 ≤ k by omega)
    omega
  · exact h
  · have h3 := bkF_low r (by omega) hr
    have h4 := lowR_mono (show k + 1 ≤ bkF r by omega)
    have h5 : lowR (bkF r) ≤ r := by
      have hp := Nat.two_pow_pos (bkF r)
      have h6 : ((1000 * 2 ^ bkF r : Nat) : Int) ≤ (r.toNat : Int) := Int.ofNat_le.2 h3
      have h7 : (0 : Int) < ((1000 * 2 ^ bkF r : Nat) : Int) := by omega
      show ((1000 * 2 ^ bkF r : Nat) : Int) ≤ r
      generalize ((1000 * 2 ^ bkF r : Nat) : Int) = z at h6 h7 ⊢
      omega
    rcases h2 with h2 | h2
    · omega
    · exact absurd h2 (Int.not_lt.2 (Int.le_trans h4 h5))
theorem meas_add {n i : Nat} (hi : i < n) : n - (intOf (.int .i64 ((i : Int) + 1))).toNat < n - (intOf (.int .i64 (i : Int))).toNat := by
  simp [intOf]
  omega
def BkAt (r : Int) (k l : Value) : Prop := ∃ i : Nat, i ≤ 23 ∧ k = .int .i64 (i : Int) ∧ l = .int .i64 (lowR i) ∧ (i = 0 ∨ lowR i ≤ r)

set_option maxRecDepth 100000 in
set_option maxHeartbeats 1600000 in
theorem bucket_any (r : Int) (w : World) (hr : r ≤ 9223372036854775807) :
    Calls Try.prog 32 #[.int .i64 r] w fun e w' => e = .returned (.int .i64 (bkF r : Int)) ∧ w = w' := by
  obtain ⟨B, hB⟩ : ∃ B : Nat, B = bkF r := ⟨_, rfl⟩
  rw [← hB]
  have HB := Lib.hid hB
  clear hB
  go_enter Try.func32, Try.ntmps32
  go_wp2_with fail
  go_loopw [4, 3] (fun k l wr => BkAt r k l ∧ wr = w) (fun k _ _ => 23 - (intOf k).toNat)
  case atStart => exact ⟨⟨0, by omega, rfl, rfl, .inl rfl⟩, rfl⟩
  case round =>
    obtain ⟨⟨i, hi, rfl, rfl, h1⟩, rfl⟩ := hrel
    by_cases hlt : i < 23
    · have dk : decide ((i : Int) < 23) = true := decide_eq_true (by omega)
      obtain ⟨b1, b2⟩ := lowR_bound (show i < 24 by omega)
      have hn := lowR_next i
      by_cases hr2 : r < lowR (i + 1)
      · have hb := bk_unique hr (by omega) h1 (.inr hr2)
        obtain rfl : i = B := by rw [HB.out]; exact hb.symm
        rw [← hn] at hr2
        obtain ⟨L, hL⟩ : ∃ L, L = lowR i := ⟨_, rfl⟩
        rw [← hL] at b1 b2 hr2 ⊢
        have dr : decide (r < 2 * L) = true := decide_eq_true hr2
        clear hn hb hL h1
        go_wp2_with fail
        exact bodyPost_ret (results_tmp rfl _ _ _) rfl ⟨rfl, rfl⟩
      · have h1' : lowR (i + 1) ≤ r := by omega
        rw [← hn] at hr2
        obtain ⟨L, hL⟩ : ∃ L, L = lowR i := ⟨_, rfl⟩
        rw [← hL] at b1 b2 hr2 hn ⊢
        have dr : decide (r < 2 * L) = false := decide_eq_false hr2
        have HN := Lib.hid hn
        have H1 := Lib.hid h1'
        clear hn hL h1 h1' hr2
        go_wp2_with fail
        exact ⟨⟨⟨i + 1, hlt, rfl, by rw [← HN.out], .inr H1.out⟩, by trivial⟩, meas_add hlt⟩
    · have dk : decide ((i : Int) < 23) = false := decide_eq_false (by omega)
      have hi23 : i = 23 := by omega
      have hb := bk_unique hr (show 23 ≤ 23 by omega) (by rw [hi23] at h1; exact h1) (.inl rfl)
      obtain rfl : i = B := by rw [HB.out, hb, hi23]
      obtain ⟨L, hL⟩ : ∃ L, L = lowR i := ⟨_, rfl⟩
      rw [← hL]
      have HI23 := Lib.hid hi23
      clear hb h1 hL hi23
      go_wp2_with fail
      exact bodyPost_ret (results_tmp rfl _ _ _) rfl ⟨by rw [HI23.out]; rfl, rfl⟩

theorem fIdx_found {W : List Ent} {id i : Nat} {e : Ent} (he : W[i]? = some e) (hid : e.id = id) (hn : ∀ j e', j < i → W[j]? = some e' → e'.id ≠ id) : fIdx W id = some i := by
  cases hf : fIdx W id with
  | none => exact absurd hid (fIdx_none hf e (List.mem_of_getElem? he))
  | some k =>
    obtain ⟨e', he', hid', hkl, hk⟩ := fIdx_some hf
    rcases Nat.lt_trichotomy k i with h | h | h
    · exact absurd hid' (hn k e' h he')
    · rw [h]
    · exact absurd hid (hk i e h he)
theorem fIdx_missing {W : List Ent} {id : Nat} (hn : ∀ j e', j < W.length → W[j]? = some e' → e'.id ≠ id) : fIdx W id = none := by
  cases hf : fIdx W id with
  | none => rfl
  | some k =>
    obtain ⟨e', he', hid', hkl, hk⟩ := fIdx_some hf
    exact absurd hid' (hn k e' hkl he')
/-- The place that find answers. -/
def findF (W : List Ent) (id : Nat) : Int := match fIdx W id with
  | some i => (i : Int)
  | none => -1
/-- What find's loop leans on. -/
structure FindAt (w wr : World) (c G GK : Nat) (us : List Value) (sl : Value) (K : List Int) (W : List Ent) : Prop where
  row : VRow wr G 30 us
  key : IRow wr GK 39 .u8 K
  wt : WtS wr c sl W
  bel : Below w.heap.size w wr
theorem FindAt.drew {w wr : World} {c G GK : Nat} {us : List Value} {sl : Value} {K : List Int} {W : List Ent} (h : FindAt w wr c G GK us sl K W) : FindAt w wr.drew c G GK us sl K W := ⟨h.row, h.key.drew, h.wt.drew, h.bel.drew⟩
theorem size_raw (K : List Int) (h : K.length = 32) : (Try.prog.info? 39).map (·.size) = some (K.map (Value.int .u8)).length := by
  rw [List.length_map, h]
  kernel_rfl

set_option maxRecDepth 100000 in
set_option maxHeartbeats 3200000 in
theorem find_any (c id : Nat) (us : List Value) (S : Bs) (w : World) (hc : c < 256) (hid : id < 256) (h : RefV w c us S) (hW : Wids S.W) (hl : S.W.length ≤ 1000000) :
    Calls Try.prog 31 #[.agg us.toArray, nmV c id] w fun e w' => e = .returned (.int .i64 (findF S.W id)) ∧ Below w.heap.size w w' := by
  obtain ⟨hcn, sl, hsl, hwt⟩ := h
  obtain ⟨R, hR⟩ : ∃ R : Int, R = findF S.W id := ⟨_, rfl⟩
  rw [← hR]
  have HR := Lib.hid hR
  clear hR
  have heq := fun e he W => eq_name c e id hc he hid W
  unfold nmV at heq ⊢
  have hi := size_raw (nmI c id) rfl
  obtain ⟨K, hK⟩ : ∃ K, K = nmI c id := ⟨_, rfl⟩
  rw [← hK] at hi ⊢
  simp only [← hK] at heq
  have hrow := (VRow.new w 30 us)
  have hat : FindAt w ((w.alloc (.cells us.toArray 30)).alloc (.cells (K.map (Value.int .u8)).toArray 39)) c w.heap.size (w.heap.size + 1) us sl K S.W := by
    have b1 : Below w.heap.size w (w.alloc (.cells us.toArray 30)) := (Below.refl _ w).alloc (Nat.le_refl _) _
    have hs1 : (w.alloc (.cells us.toArray 30)).heap.size = w.heap.size + 1 := by simp
    have r := IRow.new (w.alloc (.cells us.toArray 30)) 39 .u8 K
    rw [hs1] at r
    have b2 := b1.alloc (by rw [hs1]; omega) (.cells (K.map (Value.int .u8)).toArray 39)
    exact ⟨(Below.heap_alloc _ _ _ hrow.lt).trans hrow, r, hwt.below b2, b2⟩
  obtain ⟨Aw, cw, hf⟩ := hwt.form
  subst hf
  have hlI : (S.W.length : Int) ≤ 1000000 := by omega
  obtain ⟨n, hn⟩ : ∃ n, n = S.W.length := ⟨_, rfl⟩
  obtain ⟨w1, hw1⟩ : ∃ z, z = ((w.alloc (.cells us.toArray 30)).alloc (.cells (K.map (Value.int .u8)).toArray 39)) := ⟨_, rfl⟩
  obtain ⟨G, hG⟩ : ∃ z, z = w.heap.size := ⟨_, rfl⟩
  obtain ⟨GK, hGK⟩ : ∃ z, z = w.heap.size + 1 := ⟨_, rfl⟩
  rw [← hw1, ← hGK] at hat
  rw [← hn] at hlI hat hsl
  have hat' : FindAt w w1 c G GK us (.slice Aw n cw) K S.W := by rw [hG]; exact hat
  have HAT := Lib.hid hat'
  have HEQ := Lib.hid heq
  have HI := Lib.hid hi
  have HW := Lib.hid hW
  have HSL := Lib.hid hsl
  have HN := Lib.hid hn
  have HW1 := Lib.hid hw1
  have HG := Lib.hid hG
  have HGK := Lib.hid hGK
  clear hat hat' heq hi hW hwt hcn hn hw1 hG hGK hK hrow hsl hl
  go_enter Try.func31, Try.ntmps31
  go_upto_region 1 with fail
  change Code.wp _ _ _ _ ((w.alloc (.cells us.toArray 30)).alloc (.cells (K.map (Value.int .u8)).toArray 39))
  rw [← HW1.out, show w.heap.size + 1 = GK from HGK.out.symm, show w.heap.size = G from HG.out.symm]
  clear HW1
  try dsimp only [Act.put]
  go_wp2_with fail
  go_loopw [5] (fun s wr => ∃ i : Nat, i ≤ n ∧ s = .int .i64 (i : Int) ∧ FindAt w wr c G GK us (.slice Aw n cw) K S.W ∧ Hid (∀ j e', j < i → S.W[j]? = some e' → e'.id ≠ id)) (fun s _ => n - (intOf s).toNat)
  case atStart => exact ⟨0, Nat.zero_le _, rfl, HAT.out, Lib.hid (fun j e' hj _ => by omega)⟩
  case round =>
    obtain ⟨i, hin, rfl, hfa, hno⟩ := hrel
    have c312 : wr.cell? ⟨G, 312, none⟩ = some (.slice Aw n cw) := hfa.row.cell HSL.out
    by_cases hlt : i < n
    · obtain ⟨e, he⟩ : ∃ e, S.W[i]? = some e := ⟨_, List.getElem?_eq_getElem (by rw [← HN.out]; exact hlt)⟩
      obtain ⟨gw, cap, ef, hnc, hcm, hgl, hcells⟩ := hfa.wt.at he
      injection ef with ef1 ef2 ef3
      subst ef1 ef3
      have hrg : wr.drew.rangeAt gw (i * 34) ((nmI c e.id).map (Value.int .u8)) := fun j x hx => hcells j x (wtC_name hx)
      have he256 := HW.out e (List.mem_of_getElem? he)
      have hie := size_raw (nmI c e.id) rfl
      have hq := HEQ.out e.id he256
      obtain ⟨E, hE⟩ : ∃ E, E = nmI c e.id := ⟨_, rfl⟩
      rw [← hE] at hrg hie
      simp only [← hE] at hq
      have c312' : wr.drew.cell? ⟨G, 312, none⟩ = some (.slice (some ⟨gw, 0, none⟩) n cw) := c312
      have hk := hfa.key
      have HRG := Lib.hid hrg
      have HIE := Lib.hid hie
      have HFA := Lib.hid hfa
      have HE := Lib.hid he
      have HK := Lib.hid hk
      have hcw : n ≤ cw := by rw [HN.out]; exact hnc
      clear hrg hie hfa he hcells hE hk he256 hnc hgl ef2 hcm
      by_cases heid : e.id = id
      · have hq1 : ∀ W, (Op.equalIn 10000 39 (.agg (E.map (Value.int .u8)).toArray) (.agg (K.map (Value.int .u8)).toArray)).run Try.prog W = .ok true W := fun W => by rw [hq W, decide_eq_true heid]
        have hff : findF S.W id = (i : Int) := by unfold findF; rw [fIdx_found HE.out heid hno.out]
        obtain rfl : R = (i : Int) := by rw [HR.out]; exact hff
        clear hq hff heid
        go_wp2_with fail
        refine wp_region_held_drew (S := (fun w' => w'.cell? ⟨G, 312, none⟩ = some (.slice (some ⟨gw, 0, none⟩) n cw) ∧ IRow w' GK 39 .u8 K ∧ w'.rangeAt gw (i * 34) (E.map (Value.int .u8)))) (by kernel_rfl) ?_ (fun hHeld => ?_)
        · exact ⟨c312', HK.out.drew, HRG.out⟩
        refine wpAnyH_take (i := 0) (oi := { dst := some 13, op := Go.Op.fieldAddr 30 (Go.Operand.tmp 2) 2, type := 0, pos := "ref.go:35", after := #[], guard := none }) (v := ?av0) rfl (by kernel_rfl) (by kernel_rfl) (by kernel_rfl) (fun _ _ _ h => h) (Or.inl ⟨by rfl, ?ay0⟩) (by assumption) ?ar0
        case ay0 => (intro w hSw; (try dsimp only at hSw); go_simp; try (with_reducible rfl))
        case ar0 =>
        try simp only [Act.put, List.setIfInBounds_toArray, List.set_cons_zero, List.set_cons_succ]
        refine wpAnyH_take (i := 1) (oi := { dst := some 14, op := Go.Op.load 28 (Go.Operand.tmp 13), type := 28, pos := "ref.go:35", after := #[{ on := 0, ground := Go.Ground.data }], guard := none }) (v := (.slice (some ⟨gw, 0, none⟩) n cw)) rfl (by kernel_rfl) (by kernel_rfl) (by kernel_rfl) (fun _ _ _ h => h) (Or.inl ⟨by rfl, ?ay1⟩) (by assumption) ?ar1
        case ay1 => (intro w hSw; (try dsimp only at hSw); go_simp; try (simp [hSw.1]))
        case ar1 =>
        try simp only [Act.put, List.setIfInBounds_toArray, List.set_cons_zero, List.set_cons_succ]
        refine wpAnyH_take (i := 2) (oi := { dst := some 15, op := Go.Op.move (Go.Operand.tmp 5), type := 3, pos := "ref.go:35", after := #[], guard := none }) (v := ?av2) rfl (by kernel_rfl) (by kernel_rfl) (by kernel_rfl) (fun _ _ _ h => h) (Or.inl ⟨by rfl, ?ay2⟩) (by assumption) ?ar2
        case ay2 => (intro w hSw; (try dsimp only at hSw); go_simp; try (with_reducible rfl))
        case ar2 =>
        try simp only [Act.put, List.setIfInBounds_toArray, List.set_cons_zero, List.set_cons_succ]
        refine wpAnyH_take (i := 3) (oi := { dst := some 16, op := Go.Op.indexAddr 28 (Go.Operand.tmp 14) (Go.Operand.tmp 15), type := 0, pos := "ref.go:35", after := #[{ on := 1, ground := Go.Ground.data }, { on := 2, ground := Go.Ground.data }], guard := none }) (v := ?av3) rfl (by kernel_rfl) (by kernel_rfl) (by kernel_rfl) (fun _ _ _ h => h) (Or.inl ⟨by rfl, ?ay3⟩) (by assumption) ?ar3
        case ay3 => (intro w hSw; (try dsimp only at hSw); go_simp; try (with_reducible rfl))
        case ar3 =>
        try simp only [Act.put, List.setIfInBounds_toArray, List.set_cons_zero, List.set_cons_succ]
        refine wpAnyH_take (i := 4) (oi := { dst := some 17, op := Go.Op.fieldAddr 41 (Go.Operand.tmp 16) 0, type := 0, pos := "ref.go:35", after := #[{ on := 3, ground := Go.Ground.data }], guard := none }) (v := ?av4) rfl (by kernel_rfl) (by kernel_rfl) (by kernel_rfl) (fun _ _ _ h => h) (Or.inl ⟨by rfl, ?ay4⟩) (by assumption) ?ar4
        case ay4 => (intro w hSw; (try dsimp only at hSw); go_simp; try (with_reducible rfl))
        case ar4 =>
        try simp only [Act.put, List.setIfInBounds_toArray, List.set_cons_zero, List.set_cons_succ]
        refine wpAnyH_take (i := 5) (oi := { dst := some 18, op := Go.Op.load 39 (Go.Operand.tmp 17), type := 39, pos := "ref.go:35", after := #[{ on := 4, ground := Go.Ground.data }], guard := none }) (v := (.agg (E.map (Value.int .u8)).toArray)) rfl (by kernel_rfl) (by kernel_rfl) (by kernel_rfl) (fun _ _ _ h => h) (yieldsIf_load_mid (by rfl) 39 (.tmp 17) rfl gw (i * 34) rfl (E.map (Value.int .u8)) _ (fun w' h => h.2.2) Try.underlying39 rfl HIE.out) (by assumption) ?_
        try simp only [Act.put, List.setIfInBounds_toArray, List.set_cons_zero, List.set_cons_succ]
        refine wpAnyH_take (i := 6) (oi := { dst := some 19, op := Go.Op.load 39 (Go.Operand.tmp 3), type := 39, pos := "ref.go:35", after := #[], guard := none }) (v := (.agg (K.map (Value.int .u8)).toArray)) rfl (by kernel_rfl) (by kernel_rfl) (by kernel_rfl) (fun _ _ _ h => h) (yieldsIf_load_mid (by rfl) 39 (.tmp 3) rfl GK 0 rfl (K.map (Value.int .u8)) _ (fun w' h => irow_range0 h.2.1) Try.underlying39 rfl HI.out) (by assumption) ?_
        try simp only [Act.put, List.setIfInBounds_toArray, List.set_cons_zero, List.set_cons_succ]
        refine wpAnyH_take (i := 7) (oi := { dst := some 20, op := Go.Op.binOp Go.BinOp.eql 39 (Go.Operand.tmp 18) (Go.Operand.tmp 19) 39, type := 4, pos := "ref.go:35", after := #[{ on := 5, ground := Go.Ground.data }, { on := 6, ground := Go.Ground.data }], guard := none }) (v := (.bool true)) rfl (by kernel_rfl) (by kernel_rfl) (by kernel_rfl) (fun _ _ _ h => h) (Or.inl ⟨by rfl, ?ay7⟩) (by assumption) ?ar7
        case ay7 => (intro w hSw; (try dsimp only at hSw); go_simp; try (with_reducible rfl))
        case ar7 =>
        try simp only [Act.put, List.setIfInBounds_toArray, List.set_cons_zero, List.set_cons_succ]
        refine wpAnyH_done (by kernel_rfl) ?_ _
        go_wp2_with fail
        exact bodyPost_ret (results_tmp rfl _ _ _) rfl ⟨rfl, HFA.out.bel.drew⟩
      · have hq1 : ∀ W, (Op.equalIn 10000 39 (.agg (E.map (Value.int .u8)).toArray) (.agg (K.map (Value.int .u8)).toArray)).run Try.prog W = .ok false W := fun W => by rw [hq W, decide_eq_false heid]
        have HNO := Lib.hid (show ∀ j e', j < i + 1 → S.W[j]? = some e' → e'.id ≠ id from fun j e' hj hje => by
          by_cases hji : j = i
          · subst hji
            rw [HE.out] at hje
            injection hje with hje
            rw [← hje]
            exact heid
          · exact hno.out j e' (by omega) hje)
        clear hq heid
        go_wp2_with fail
        refine wp_region_held_drew (S := (fun w' => w'.cell? ⟨G, 312, none⟩ = some (.slice (some ⟨gw, 0, none⟩) n cw) ∧ IRow w' GK 39 .u8 K ∧ w'.rangeAt gw (i * 34) (E.map (Value.int .u8)))) (by kernel_rfl) ?_ (fun hHeld => ?_)
        · exact ⟨c312', HK.out.drew, HRG.out⟩
        refine wpAnyH_take (i := 0) (oi := { dst := some 13, op := Go.Op.fieldAddr 30 (Go.Operand.tmp 2) 2, type := 0, pos := "ref.go:35", after := #[], guard := none }) (v := ?bv0) rfl (by kernel_rfl) (by kernel_rfl) (by kernel_rfl) (fun _ _ _ h => h) (Or.inl ⟨by rfl, ?by0⟩) (by assumption) ?br0
        case by0 => (intro w hSw; (try dsimp only at hSw); go_simp; try (with_reducible rfl))
        case br0 =>
        try simp only [Act.put, List.setIfInBounds_toArray, List.set_cons_zero, List.set_cons_succ]
        refine wpAnyH_take (i := 1) (oi := { dst := some 14, op := Go.Op.load 28 (Go.Operand.tmp 13), type := 28, pos := "ref.go:35", after := #[{ on := 0, ground := Go.Ground.data }], guard := none }) (v := (.slice (some ⟨gw, 0, none⟩) n cw)) rfl (by kernel_rfl) (by kernel_rfl) (by kernel_rfl) (fun _ _ _ h => h) (Or.inl ⟨by rfl, ?by1⟩) (by assumption) ?br1
        case by1 => (intro w hSw; (try dsimp only at hSw); go_simp; try (simp [hSw.1]))
        case br1 =>
        try simp only [Act.put, List.setIfInBounds_toArray, List.set_cons_zero, List.set_cons_succ]
        refine wpAnyH_take (i := 2) (oi := { dst := some 15, op := Go.Op.move (Go.Operand.tmp 5), type := 3, pos := "ref.go:35", after := #[], guard := none }) (v := ?bv2) rfl (by kernel_rfl) (by kernel_rfl) (by kernel_rfl) (fun _ _ _ h => h) (Or.inl ⟨by rfl, ?by2⟩) (by assumption) ?br2
        case by2 => (intro w hSw; (try dsimp only at hSw); go_simp; try (with_reducible rfl))
        case br2 =>
        try simp only [Act.put, List.setIfInBounds_toArray, List.set_cons_zero, List.set_cons_succ]
        refine wpAnyH_take (i := 3) (oi := { dst := some 16, op := Go.Op.indexAddr 28 (Go.Operand.tmp 14) (Go.Operand.tmp 15), type := 0, pos := "ref.go:35", after := #[{ on := 1, ground := Go.Ground.data }, { on := 2, ground := Go.Ground.data }], guard := none }) (v := ?bv3) rfl (by kernel_rfl) (by kernel_rfl) (by kernel_rfl) (fun _ _ _ h => h) (Or.inl ⟨by rfl, ?by3⟩) (by assumption) ?br3
        case by3 => (intro w hSw; (try dsimp only at hSw); go_simp; try (with_reducible rfl))
        case br3 =>
        try simp only [Act.put, List.setIfInBounds_toArray, List.set_cons_zero, List.set_cons_succ]
        refine wpAnyH_take (i := 4) (oi := { dst := some 17, op := Go.Op.fieldAddr 41 (Go.Operand.tmp 16) 0, type := 0, pos := "ref.go:35", after := #[{ on := 3, ground := Go.Ground.data }], guard := none }) (v := ?bv4) rfl (by kernel_rfl) (by kernel_rfl) (by kernel_rfl) (fun _ _ _ h => h) (Or.inl ⟨by rfl, ?by4⟩) (by assumption) ?br4
        case by4 => (intro w hSw; (try dsimp only at hSw); go_simp; try (with_reducible rfl))
        case br4 =>
        try simp only [Act.put, List.setIfInBounds_toArray, List.set_cons_zero, List.set_cons_succ]
        refine wpAnyH_take (i := 5) (oi := { dst := some 18, op := Go.Op.load 39 (Go.Operand.tmp 17), type := 39, pos := "ref.go:35", after := #[{ on := 4, ground := Go.Ground.data }], guard := none }) (v := (.agg (E.map (Value.int .u8)).toArray)) rfl (by kernel_rfl) (by kernel_rfl) (by kernel_rfl) (fun _ _ _ h => h) (yieldsIf_load_mid (by rfl) 39 (.tmp 17) rfl gw (i * 34) rfl (E.map (Value.int .u8)) _ (fun w' h => h.2.2) Try.underlying39 rfl HIE.out) (by assumption) ?_
        try simp only [Act.put, List.setIfInBounds_toArray, List.set_cons_zero, List.set_cons_succ]
        refine wpAnyH_take (i := 6) (oi := { dst := some 19, op := Go.Op.load 39 (Go.Operand.tmp 3), type := 39, pos := "ref.go:35", after := #[], guard := none }) (v := (.agg (K.map (Value.int .u8)).toArray)) rfl (by kernel_rfl) (by kernel_rfl) (by kernel_rfl) (fun _ _ _ h => h) (yieldsIf_load_mid (by rfl) 39 (.tmp 3) rfl GK 0 rfl (K.map (Value.int .u8)) _ (fun w' h => irow_range0 h.2.1) Try.underlying39 rfl HI.out) (by assumption) ?_
        try simp only [Act.put, List.setIfInBounds_toArray, List.set_cons_zero, List.set_cons_succ]
        refine wpAnyH_take (i := 7) (oi := { dst := some 20, op := Go.Op.binOp Go.BinOp.eql 39 (Go.Operand.tmp 18) (Go.Operand.tmp 19) 39, type := 4, pos := "ref.go:35", after := #[{ on := 5, ground := Go.Ground.data }, { on := 6, ground := Go.Ground.data }], guard := none }) (v := (.bool false)) rfl (by kernel_rfl) (by kernel_rfl) (by kernel_rfl) (fun _ _ _ h => h) (Or.inl ⟨by rfl, ?by7⟩) (by assumption) ?br7
        case by7 => (intro w hSw; (try dsimp only at hSw); go_simp; try (with_reducible rfl))
        case br7 =>
        try simp only [Act.put, List.setIfInBounds_toArray, List.set_cons_zero, List.set_cons_succ]
        refine wpAnyH_done (by kernel_rfl) ?_ _
        go_wp2_with fail
        exact ⟨⟨i + 1, hlt, rfl, HFA.out.drew, HNO⟩, meas_add hlt⟩
    · have hff : findF S.W id = -1 := by
        have hin2 : i = S.W.length := by rw [← HN.out]; omega
        unfold findF
        rw [fIdx_missing (fun j e' hj hje => hno.out j e' (by omega) hje)]
      obtain rfl : R = -1 := by rw [HR.out]; exact hff
      have HBL := Lib.hid hfa.bel
      clear hff hfa
      go_wp2_with fail
      exact bodyPost_ret (results_tmp rfl _ _ _) rfl ⟨rfl, HBL.out⟩
end Go.Proofs.Ytfhpodeppmnopaa
