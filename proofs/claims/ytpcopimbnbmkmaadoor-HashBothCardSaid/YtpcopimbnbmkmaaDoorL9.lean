/-
  Texts joined: S5Add, Sum, SumH. Conditions: those of each.
-/
import Derived.Test.YtpcopimbnbmkmaaDoorL5
import Derived.Test.YtpcopimbnbmkmaaDoorL8
/-
  What an intake of SHA-512 takes in, walked. Conditions: the sizes stay below 2^60; the piece lies elsewhere; the roots are laid.
-/
namespace Go.Proofs.YtpcopimbnbmkmaaDoor.S5
open Go.RowKit

/-- What the kind of SHA-512 is in memory. -/
def kRow : List Value := .int .i64 128 :: (start512.list.map (Value.int .u64) ++ [.func (.func 38) #[] #[]])
/-- Where it stands: the words behind the first q blocks, the piece's rest. -/
def Mid (w0 : World) (g K : Nat) (t : TypeId) (mb : List UInt8) (v : Value) (wx : World) : Prop :=
  ∃ q rest, 128 * q ≤ mb.length ∧ rest.length = 128 ∧ Src wx g v (mb.drop (128 * q)) ∧ VRow wx g t (inRow (blocks512 mb q).list rest mb.length) ∧ VRow wx K 81 kRow ∧ Turns (· = g) w0 wx
/-- At the end. -/
def Fed (w0 : World) (g : Nat) (t : TypeId) (mb : List UInt8) (e : Ending) (wx : World) : Prop :=
  e = .returned (.tuple #[]) ∧ ∃ ws rest, Took mb ws rest ∧ ws.length = 8 ∧ VRow wx g t (inRow ws rest mb.length) ∧ Turns (· = g) w0 wx

theorem kRow_words {j : Nat} {x : Value} (h : (start512.list.map (Value.int .u64))[j]? = some x) : kRow[1 + j]? = some x := by
  rw [← h]
  match j with
  | 0 => rfl
  | 1 => rfl
  | 2 => rfl
  | 3 => rfl
  | 4 => rfl
  | 5 => rfl
  | 6 => rfl
  | 7 => rfl
  | j + 8 => exact absurd (List.getElem?_eq_some_iff.1 h).1 (by simp [S8.list])
theorem words_one (s : S8) : (s.list.map (Value.int .u64)).toArray.all (·.oneCell') = true := by simp [S8.list, Value.oneCell']
theorem S8.list_length (s : S8) : s.list.length = 8 := rfl
set_option maxRecDepth 100000 in
set_option maxHeartbeats 6400000 in
theorem add_any (g : Nat) (t : TypeId) (m b : List UInt8) (ws rest : List Int) (v : Value) (w : World) (ht : Took m ws rest) (hws : ws.length = 8) (hrow : VRow w g t (inRow ws rest m.length)) (hsrc : Src w g v b)
    (hlen : m.length + b.length < 1152921504606846976) (hcube : CubeIs w) (hcg : 1 ≠ g) :
    Calls Tryd.prog 39 #[.pointer (some ⟨g, 0, none⟩), .agg kRow.toArray, v] w (Fed w g t (m ++ b)) := by
  have hg := hrow.lt
  have rK := VRow.new w 81 kRow
  have tK : Turns (· = g) w (w.alloc (.cells kRow.toArray 81)) := (Turns.refl _ w).alloc _
  have rG := hrow.below ((Below.refl _ w).alloc (Nat.le_refl _) (.cells kRow.toArray 81)) hg
  have sG := hsrc.turns tK (fun _ h => h)
  have cG := hcube.turns tK hcg
  obtain ⟨A, c, rfl, hbc, hcm⟩ := hsrc.form
  obtain ⟨K, hK⟩ : ∃ K, K = w.heap.size := ⟨_, rfl⟩
  have hKg : g < K := by omega
  have HT := Lib.hid ht
  have HWS := Lib.hid hws
  have S0 := Lib.hid hsrc
  have C0 := Lib.hid hcube
  clear hrow hsrc hcube ht hws
  go_enter Tryd.func39, Tryd.ntmps39
  go_upto_region 1 with fail
  obtain ⟨w1, hw1⟩ : ∃ x, x = w.alloc (.cells kRow.toArray 81) := ⟨_, rfl⟩
  rw [← hw1] at rK tK rG sG cG ⊢
  rw [← hK] at rK ⊢
  have hzc := rG.cell (inRow_size m.length HWS.out HT.out.size)
  have RK := Lib.hid rK
  have TK := Lib.hid tK
  have RG := Lib.hid rG
  have SG := Lib.hid sG
  have CG := Lib.hid cG
  have HKE := Lib.hid hK
  clear rK tK rG sG cG hw1 hK
  go_upto_if 12 with fail
  go_cut [4] (fun s4 wx => s4 = .pointer (some ⟨K, 0, none⟩) ∧ VRow wx g t (inRow (blocks512 m (m.length / 128)).list rest m.length) ∧ VRow wx K 81 kRow ∧ Turns (· = g) w wx)
  case first =>
    by_cases hm : m = []
    · have hm0 : ((m.length : Int) == 0) = true := by rw [hm]; rfl
      have HM := Lib.hid hm
      clear hm
      obtain ⟨L, hL⟩ : ∃ L, L = start512.list.map (Value.int .u64) := ⟨_, rfl⟩
      have hLl : L.length = 8 := by rw [hL]; rfl
      have TH := Lib.hid (show w1.there g 0 L.toArray.size from RG.out.there (by rw [inRow_length _ HWS.out HT.out.size, List.size_toArray, hLl]; decide))
      have HI := Lib.hid (show (Tryd.prog.info? 55).map (·.size) = some L.length by rw [hLl]; exact info_8)
      have HI2 := Lib.hid (show (Tryd.prog.info? 55).map (·.size) = some L.toArray.size by rw [List.size_toArray, hLl]; exact info_8)
      have HO := Lib.hid (show L.toArray.all (·.oneCell') = true by rw [hL]; exact words_one _)
      have HRA := Lib.hid (show w1.rangeAt K 1 L from RK.out.range (by intro j x hx; rw [hL] at hx; exact kRow_words hx))
      have HL := Lib.hid hL
      have HLL := Lib.hid hLl
      clear hL hLl
      go_wp2_with (first
        | (refine wpList_load_mid rfl 55 (.tmp 14) rfl K 1 rfl L _ HRA.out Tryd.underlying55 rfl HI.out ?_)
        | (refine wpList_store_mid rfl 55 (.tmp 17) (.tmp 15) rfl g 0 L.toArray rfl rfl TH.out HI2.out HO.out ?_))
      go_wp2_with fail
      go_meet
      have hq : blocks512 m (m.length / 128) = start512 := by rw [HM.out]; rfl
      have h := VRow.setCells L (o := 0) RG.out (by rw [inRow_length _ HWS.out HT.out.size, HLL.out]; decide)
      have hu := inRow_words (us := start512.list) m.length (rest := rest) HWS.out rfl
      rw [← HL.out] at hu
      rw [hu, ← hq] at h
      exact ⟨rfl, h, VRow.setCells_other (by omega) _ RK.out, Turns.setCells (S := (· = g)) (fun _ => rfl) _ TK.out⟩
    · have hm0 : ((m.length : Int) == 0) = false := by
        have := List.length_pos_iff.2 hm
        simp; omega
      go_wp2_with fail
      go_meet
      exact ⟨rfl, by rw [← HT.out.words hm]; exact RG.out, RK.out, TK.out⟩
  case rest =>
    obtain ⟨rfl, rG, rK, tK⟩ := hcut
    obtain ⟨s, hs⟩ : ∃ s, s = blocks512 m (m.length / 128) := ⟨_, rfl⟩
    rw [← hs] at rG
    obtain ⟨r, hr⟩ : ∃ r, r = m.length % 128 := ⟨_, rfl⟩
    obtain ⟨N, hN⟩ : ∃ N, N = (m ++ b).length := ⟨_, rfl⟩
    have zc := rG.cell (inRow_size m.length (S8.list_length s) HT.out.size)
    have kc : wc.cell? ⟨K, 0, none⟩ = some (.int .i64 128) := rK.cell rfl
    have e1 : (m.length : Int).tmod 128 = (r : Int) := by rw [Int.tmod_eq_emod_of_nonneg (by omega)]; omega
    have e2 : (m.length : Int) % 128 = (r : Int) := by omega
    have e3 : IntKind.i64.wrap (r : Int) = (r : Int) := by rw [IntWalk.i64_in _ (by omega)]
    have hN2 : N = m.length + b.length := by rw [hN, List.length_append]
    have e4 : (m.length : Int) + (b.length : Int) = (N : Int) := by omega
    have rG3 := rG.set 136 (.int .u64 (N : Int))
    rw [inRow_sized _ N (S8.list_length s) HT.out.size] at rG3
    have fz := rG.free 136
    have tK3 := tK.setCell (p := ⟨g, 136, none⟩) (fun _ => rfl) (.int .u64 (N : Int))
    have rK3 := rK.turns ((Turns.refl (· = g) wc).setCell (p := ⟨g, 136, none⟩) (fun _ => rfl) (.int .u64 (N : Int))) (by omega)
    have HS := Lib.hid hs
    have HR := Lib.hid hr
    have HN := Lib.hid hN
    have HN2 := Lib.hid hN2
    have RG3 := Lib.hid rG3
    have RK3 := Lib.hid rK3
    have TK3 := Lib.hid tK3
    clear hs hr hN hN2 rG rK tK rG3 rK3 tK3 RG RK TK hzc
    go_wp2_with fail
    go_quiet (fail)
    go_upto_if 38 with fail
    obtain ⟨w3, hw3⟩ : ∃ x, x = (wc.drewN nq).setCell ⟨g, 136, none⟩ (.int .u64 (N : Int)) := ⟨_, rfl⟩
    rw [← hw3]
    have rG4 : VRow w3 g t (inRow s.list rest N) := by rw [hw3]; exact RG3.out
    have rK4 : VRow w3 K 81 kRow := by rw [hw3]; exact RK3.out
    have tK4 : Turns (· = g) w w3 := by rw [hw3]; exact ⟨TK3.out.os, TK3.out.tape, TK3.out.output, TK3.out.size, TK3.out.block⟩
    have cu4 : CubeIs w3 := C0.out.turns tK4 hcg
    have sr4 : Src w3 g (.slice A b.length c) b := S0.out.turns tK4 (fun _ h => h)
    clear hw3 kc zc fz RG3 RK3 TK3
    have RG4 := Lib.hid rG4
    have RK4 := Lib.hid rK4
    have TK4 := Lib.hid tK4
    have CU4 := Lib.hid cu4
    have SR4 := Lib.hid sr4
    have hr64 : r < 128 := by have := HR.out; omega
    clear rG4 rK4 tK4 cu4 sr4 e1 e2 e3 e4
    go_cut [2] (fun v2 wx => Mid w g K t (m ++ b) v2 wx)
    case first =>
      by_cases h0 : 0 < r
      · obtain ⟨n, hn⟩ : ∃ n, n = min b.length (128 - r) := ⟨_, rfl⟩
        have kc3 : w3.cell? ⟨K, 0, none⟩ = some (.int .i64 128) := RK4.out.cell rfl
        have i1 : (r : Int) ≤ 128 := by omega
        have i2 : ¬ 128 = r := by omega
        have hil := inRow_length N (S8.list_length s) HT.out.size
        have hover : over (inRow s.list rest N) (8 + r) (b.take n) = inRow s.list (laid rest r (nums (b.take n))) N := by
          have h := inRow_laid (ws := s.list) (rest := rest) (ns := nums (b.take n)) N (k := r) rfl (by rw [nums_length, List.length_take, HT.out.size]; omega)
          rw [nums_bv] at h
          exact h
        have HN3 := Lib.hid hn
        have HIL := Lib.hid hil
        have HOV := Lib.hid hover
        have hnr : n ≤ 128 - r := by omega
        clear hn hil hover
        go_wp2_with fail
        refine wp_region_held_drew (S := (fun w' => w'.cell? ⟨K, 0, none⟩ = some (.int .i64 128))) (by kernel_rfl) ?_ (fun hHeld => ?_)
        · exact kc3
        refine wpAnyH_take (i := 0) (oi := { dst := some 39, op := Go.Op.move (Go.Operand.tmp 0), type := 90, pos := "intake.go:24", after := #[], guard := none }) (v := ?cv0) rfl (by kernel_rfl) (by kernel_rfl) (by kernel_rfl) (fun _ _ _ h => h) (Or.inl ⟨by rfl, ?cy0⟩) (by assumption) ?cr0
        case cy0 => (intro w hSw; (try dsimp only at hSw); go_simp; try (with_reducible rfl))
        case cr0 =>
        try simp only [Act.put, List.setIfInBounds_toArray, List.set_cons_zero, List.set_cons_succ]
        refine wpAnyH_take (i := 1) (oi := { dst := some 40, op := Go.Op.nilCheck (Go.Operand.tmp 39), type := 0, pos := "intake.go:24", after := #[{ on := 0, ground := Go.Ground.data }], guard := none }) (v := ?cv1) rfl (by kernel_rfl) (by kernel_rfl) (by kernel_rfl) (fun _ _ _ h => h) (Or.inl ⟨by rfl, ?cy1⟩) (by assumption) ?cr1
        case cy1 => (intro w hSw; (try dsimp only at hSw); go_simp; try (with_reducible rfl))
        case cr1 =>
        try simp only [Act.put, List.setIfInBounds_toArray, List.set_cons_zero, List.set_cons_succ]
        refine wpAnyH_take (i := 2) (oi := { dst := some 41, op := Go.Op.fieldAddr 83 (Go.Operand.tmp 40) 1, type := 0, pos := "intake.go:24", after := #[{ on := 1, ground := Go.Ground.data }], guard := none }) (v := ?cv2) rfl (by kernel_rfl) (by kernel_rfl) (by kernel_rfl) (fun _ _ _ h => h) (Or.inl ⟨by rfl, ?cy2⟩) (by assumption) ?cr2
        case cy2 => (intro w hSw; (try dsimp only at hSw); go_simp; try (with_reducible rfl))
        case cr2 =>
        try simp only [Act.put, List.setIfInBounds_toArray, List.set_cons_zero, List.set_cons_succ]
        refine wpAnyH_take (i := 3) (oi := { dst := some 42, op := Go.Op.move (Go.Operand.tmp 6), type := 3, pos := "intake.go:24", after := #[], guard := none }) (v := ?cv3) rfl (by kernel_rfl) (by kernel_rfl) (by kernel_rfl) (fun _ _ _ h => h) (Or.inl ⟨by rfl, ?cy3⟩) (by assumption) ?cr3
        case cy3 => (intro w hSw; (try dsimp only at hSw); go_simp; try (with_reducible rfl))
        case cr3 =>
        try simp only [Act.put, List.setIfInBounds_toArray, List.set_cons_zero, List.set_cons_succ]
        refine wpAnyH_take (i := 4) (oi := { dst := some 43, op := Go.Op.fieldAddr 81 (Go.Operand.tmp 4) 0, type := 0, pos := "intake.go:24", after := #[], guard := none }) (v := ?cv4) rfl (by kernel_rfl) (by kernel_rfl) (by kernel_rfl) (fun _ _ _ h => h) (Or.inl ⟨by rfl, ?cy4⟩) (by assumption) ?cr4
        case cy4 => (intro w hSw; (try dsimp only at hSw); go_simp; try (with_reducible rfl))
        case cr4 =>
        try simp only [Act.put, List.setIfInBounds_toArray, List.set_cons_zero, List.set_cons_succ]
        refine wpAnyH_take (i := 5) (oi := { dst := some 44, op := Go.Op.load 3 (Go.Operand.tmp 43), type := 3, pos := "intake.go:24", after := #[{ on := 4, ground := Go.Ground.data }], guard := none }) (v := ?cv5) rfl (by kernel_rfl) (by kernel_rfl) (by kernel_rfl) (fun _ _ _ h => h) (Or.inl ⟨by rfl, ?cy5⟩) (by assumption) ?cr5
        case cy5 => (intro w hSw; (try dsimp only at hSw); go_simp; try (with_reducible rfl))
        case cr5 =>
        try simp only [Act.put, List.setIfInBounds_toArray, List.set_cons_zero, List.set_cons_succ]
        refine wpAnyH_take (i := 6) (oi := { dst := some 45, op := Go.Op.slice 41 (Go.Operand.tmp 41) (some (Go.Operand.tmp 42)) (some (Go.Operand.tmp 44)) none, type := 22, pos := "intake.go:24", after := #[{ on := 2, ground := Go.Ground.data }, { on := 3, ground := Go.Ground.data }, { on := 5, ground := Go.Ground.data }], guard := none }) (v := Value.slice (some ⟨g, 8 + r, none⟩) (128 - r) (128 - r)) rfl (by kernel_rfl) (by kernel_rfl) (by kernel_rfl) (fun _ _ _ h => h) (Or.inl ⟨by rfl, ?cy6⟩) (by assumption) ?cr6
        case cy6 => (intro w hSw; (try dsimp only at hSw); go_simp; try (with_reducible rfl))
        case cr6 =>
        try simp only [Act.put, List.setIfInBounds_toArray, List.set_cons_zero, List.set_cons_succ]
        refine wpAnyH_take (i := 7) (oi := { dst := some 46, op := Go.Op.move (Go.Operand.tmp 2), type := 22, pos := "intake.go:24", after := #[], guard := none }) (v := ?cv7) rfl (by kernel_rfl) (by kernel_rfl) (by kernel_rfl) (fun _ _ _ h => h) (Or.inl ⟨by rfl, ?cy7⟩) (by assumption) ?cr7
        case cy7 => (intro w hSw; (try dsimp only at hSw); go_simp; try (with_reducible rfl))
        case cr7 =>
        try simp only [Act.put, List.setIfInBounds_toArray, List.set_cons_zero, List.set_cons_succ]
        refine wpAnyH_ready (rs := [8]) (by kernel_rfl) (by simp) ?_
        refine AllReadyH.cons (o := { dst := some 47, op := Go.Op.call { callee := Go.Callee.builtin Go.Builtin.copy, args := #[Go.Operand.tmp 45, Go.Operand.tmp 46], argTypes := #[22, 22] }, type := 3, pos := "intake.go:24", after := #[{ on := 6, ground := Go.Ground.data }, { on := 7, ground := Go.Ground.data }], guard := none }) rfl (fun K hK => ?_) (AllReadyH.nil)
        simp only [Region.wanted, if_true]
        refine op_copy_src (.tmp 45) (.tmp 46) rfl g (8 + r) (128 - r) (128 - r) t _ RG4.out rfl rfl SR4.out n HN3.out (by rw [HIL.out]; omega) ?_
        rw [HOV.out]
        refine hK.out _ _ ?_ (fun hHeld => ?_)
        · exact (RK4.out.turns ((Turns.refl (· = g) w3).setRow (fun _ => rfl) _) (by omega)).cell rfl
        clear hK K
        try simp only [Act.put, List.setIfInBounds_toArray, List.set_cons_zero, List.set_cons_succ]
        refine wpAnyH_take (i := 9) (oi := { dst := some 7, op := Go.Op.assign (Go.Operand.tmp 47), type := 3, pos := "intake.go:24", after := #[{ on := 8, ground := Go.Ground.data }, { on := 8, ground := Go.Ground.chain }, { on := 0, ground := Go.Ground.phase }, { on := 1, ground := Go.Ground.phase }, { on := 2, ground := Go.Ground.phase }, { on := 3, ground := Go.Ground.phase }, { on := 4, ground := Go.Ground.phase }, { on := 5, ground := Go.Ground.phase }, { on := 6, ground := Go.Ground.phase }, { on := 7, ground := Go.Ground.phase }, { on := 8, ground := Go.Ground.phase }], guard := none }) (v := ?c_8v9) rfl (by kernel_rfl) (by kernel_rfl) (by kernel_rfl) (fun _ _ _ h => h) (Or.inl ⟨by rfl, ?c_8y9⟩) (by assumption) ?c_8r9
        case c_8y9 => (intro w hSw; (try dsimp only at hSw); go_simp; try (with_reducible rfl))
        case c_8r9 =>
        try simp only [Act.put, List.setIfInBounds_toArray, List.set_cons_zero, List.set_cons_succ]
        refine wpAnyH_done (by kernel_rfl) ?_ _
        obtain ⟨R, hR⟩ : ∃ R, R = laid rest r (nums (b.take n)) := ⟨_, rfl⟩
        have hRl : R.length = 128 := by rw [hR, laid_length (by rw [nums_length, List.length_take, HT.out.size]; omega), HT.out.size]
        rw [← hR]
        obtain ⟨w4, hw4⟩ : ∃ x, x = w3.drew.setRow g (inRow s.list R N).toArray := ⟨_, rfl⟩
        rw [← hw4]
        have rG5 : VRow w4 g t (inRow s.list R N) := by rw [hw4]; exact (show VRow w3.drew g t (inRow s.list rest N) from RG4.out).setRow _
        have tT : Turns (· = g) w3 w4 := by rw [hw4]; exact (Turns.refl (· = g) w3).drew.setRow (fun _ => rfl) _
        have rK5 := RK4.out.turns tT (by omega)
        have tK5 := TK4.out.trans tT (fun _ _ h => h)
        have sr5 := SR4.out.turns tT (fun _ h => h)
        have cu5 := CU4.out.turns tT hcg
        clear hw4 tT RG4 RK4 TK4 SR4 CU4
        have k0 : w4.cell? ⟨K, 0, none⟩ = some (.int .i64 128) := rK5.cell rfl
        by_cases h64 : r + b.length < 128
        · have hnb : n = b.length := by rw [HN3.out]; omega
          have e5 : (r : Int) + (n : Int) < 128 := by omega
          have htk : b.take n = b := by rw [hnb, List.take_length]
          have HR2 := Lib.hid hR
          have HTK := Lib.hid htk
          clear hR htk hnb
          go_wp2_with fail
          refine bodyPost_end (results_none Tryd.results39 _ _ _) rfl ⟨rfl, s.list, R, ?_, rfl, ?_, tK5⟩
          · have hm0 : m ≠ [] := by rintro rfl; have := HR.out; simp at this; omega
            have h := HT.out.some (b := b) hm0 (by rw [← HR.out]; omega)
            rw [HT.out.words hm0, ← HS.out, ← HR.out] at h
            rw [HR2.out, HTK.out]
            exact h
          · rw [← HN.out]; exact rG5
        · have hnb : n = 128 - r := by rw [HN3.out]; omega
          have e5 : (r : Int) + (n : Int) = 128 := by omega
          obtain ⟨bs, hbs⟩ : ∃ bs, bs = m.drop (128 * (m.length / 128)) ++ b.take n := ⟨_, rfl⟩
          have hbl : bs.length = 128 := by rw [hbs, List.length_append, List.length_drop, List.length_take]; have := HR.out; omega
          have hR64 : R.take 128 = nums bs := by
            have h := laid_take (r := rest) (k := r) (ns := nums (b.take n)) (by rw [nums_length, List.length_take, HT.out.size]; omega)
            rw [nums_length, List.length_take, ← hR, show r + min n b.length = 128 by omega] at h
            rw [h, hbs, nums_append, HR.out, HT.out.low]
          have hcells : ∀ (j : Nat) (u : UInt8), bs[j]? = some u → w4.cell? ⟨g, 8 + j, none⟩ = some (bv u) := fun j u hu => by
            refine rG5.cell (inRow_rest N (S8.list_length s) (x := (u.toNat : Int)) ?_)
            have hj : j < 128 := by rw [← hbl]; exact (List.getElem?_eq_some_iff.1 hu).1
            have e : R[j]? = (R.take 128)[j]? := by rw [List.getElem?_take, if_pos hj]
            rw [e, hR64]
            unfold nums
            rw [List.getElem?_map, hu]
            rfl
          have hsok : s.Ok := by rw [HS.out]; exact blocks512_ok _ _
          have STEP := Lib.hid (step512_any g 8 128 s bs w4.drew hsok hbl (by omega) (by omega) rG5.lt hcells cu5)
          obtain ⟨L, hL⟩ : ∃ L, L = s.list.map (Value.int .u64) := ⟨_, rfl⟩
          obtain ⟨M, hM⟩ : ∃ M, M = (comp512 s bs).list.map (Value.int .u64) := ⟨_, rfl⟩
          rw [← hL, ← hM] at STEP
          have hLl : L.length = 8 := by rw [hL]; rfl
          have hMl : M.length = 8 := by rw [hM]; rfl
          have HI := Lib.hid (show (Tryd.prog.info? 55).map (·.size) = some L.length by rw [hLl]; exact info_8)
          have HI2 := Lib.hid (show (Tryd.prog.info? 55).map (·.size) = some M.toArray.size by rw [List.size_toArray, hMl]; exact info_8)
          have HO := Lib.hid (show M.toArray.all (·.oneCell') = true by rw [hM]; exact words_one _)
          have HRA := Lib.hid (show w4.drew.rangeAt g 0 L from VRow.range (w := w4) rG5 (by
            intro j x hx
            rw [hL, List.getElem?_map] at hx
            cases hy : s.list[j]? with
            | none => rw [hy] at hx; exact absurd hx (by simp)
            | some y =>
              rw [hy] at hx
              obtain rfl : Value.int .u64 y = x := Option.some.inj hx
              rw [Nat.zero_add]
              exact inRow_word N hy))
          have k9 : w4.cell? ⟨K, 9, none⟩ = some (.func (.func 38) #[] #[]) := rK5.cell rfl
          have RG5 := Lib.hid rG5
          have RK5 := Lib.hid rK5
          have TK5 := Lib.hid tK5
          have SR5 := Lib.hid sr5
          have HBS := Lib.hid hbs
          have HBL := Lib.hid hbl
          have HML := Lib.hid hMl
          have HMM := Lib.hid hM
          have HNB := Lib.hid hnb
          have HRL := Lib.hid hRl
          clear rG5 rK5 tK5 sr5 cu5 hbs hbl hR hR64 hcells hsok hL hM hLl hMl hnb hRl
          go_wp2_with fail
          refine wp_region_held_drew (S := (fun w' => w'.cell? ⟨K, 0, none⟩ = some (.int .i64 128) ∧ w'.cell? ⟨K, 9, none⟩ = some (.func (.func 38) #[] #[]))) (by kernel_rfl) ?_ (fun hHeld => ?_)
          · exact ⟨k0, k9⟩
          refine wpAnyH_take (i := 0) (oi := { dst := some 54, op := Go.Op.move (Go.Operand.tmp 0), type := 90, pos := "intake.go:28", after := #[], guard := none }) (v := ?dv0) rfl (by kernel_rfl) (by kernel_rfl) (by kernel_rfl) (fun _ _ _ h => h) (Or.inl ⟨by rfl, ?dy0⟩) (by assumption) ?dr0
          case dy0 => (intro w hSw; (try dsimp only at hSw); go_simp; try (with_reducible rfl))
          case dr0 =>
          try simp only [Act.put, List.setIfInBounds_toArray, List.set_cons_zero, List.set_cons_succ]
          refine wpAnyH_take (i := 1) (oi := { dst := some 55, op := Go.Op.fieldAddr 81 (Go.Operand.tmp 4) 2, type := 0, pos := "intake.go:28", after := #[], guard := none }) (v := ?dv1) rfl (by kernel_rfl) (by kernel_rfl) (by kernel_rfl) (fun _ _ _ h => h) (Or.inl ⟨by rfl, ?dy1⟩) (by assumption) ?dr1
          case dy1 => (intro w hSw; (try dsimp only at hSw); go_simp; try (with_reducible rfl))
          case dr1 =>
          try simp only [Act.put, List.setIfInBounds_toArray, List.set_cons_zero, List.set_cons_succ]
          refine wpAnyH_take (i := 2) (oi := { dst := some 56, op := Go.Op.load 79 (Go.Operand.tmp 55), type := 79, pos := "intake.go:28", after := #[{ on := 1, ground := Go.Ground.data }], guard := none }) (v := ?dv2) rfl (by kernel_rfl) (by kernel_rfl) (by kernel_rfl) (fun _ _ _ h => h) (Or.inl ⟨by rfl, ?dy2⟩) (by assumption) ?dr2
          case dy2 => (intro w hSw; (try dsimp only at hSw); go_simp; try (with_reducible rfl))
          case dr2 =>
          try simp only [Act.put, List.setIfInBounds_toArray, List.set_cons_zero, List.set_cons_succ]
          refine wpAnyH_take (i := 3) (oi := { dst := some 57, op := Go.Op.move (Go.Operand.tmp 0), type := 90, pos := "intake.go:28", after := #[], guard := none }) (v := ?dv3) rfl (by kernel_rfl) (by kernel_rfl) (by kernel_rfl) (fun _ _ _ h => h) (Or.inl ⟨by rfl, ?dy3⟩) (by assumption) ?dr3
          case dy3 => (intro w hSw; (try dsimp only at hSw); go_simp; try (with_reducible rfl))
          case dr3 =>
          try simp only [Act.put, List.setIfInBounds_toArray, List.set_cons_zero, List.set_cons_succ]
          refine wpAnyH_take (i := 4) (oi := { dst := some 58, op := Go.Op.nilCheck (Go.Operand.tmp 57), type := 0, pos := "intake.go:28", after := #[{ on := 3, ground := Go.Ground.data }], guard := none }) (v := ?dv4) rfl (by kernel_rfl) (by kernel_rfl) (by kernel_rfl) (fun _ _ _ h => h) (Or.inl ⟨by rfl, ?dy4⟩) (by assumption) ?dr4
          case dy4 => (intro w hSw; (try dsimp only at hSw); go_simp; try (with_reducible rfl))
          case dr4 =>
          try simp only [Act.put, List.setIfInBounds_toArray, List.set_cons_zero, List.set_cons_succ]
          refine wpAnyH_take (i := 5) (oi := { dst := some 59, op := Go.Op.fieldAddr 83 (Go.Operand.tmp 58) 0, type := 0, pos := "intake.go:28", after := #[{ on := 4, ground := Go.Ground.data }], guard := none }) (v := ?dv5) rfl (by kernel_rfl) (by kernel_rfl) (by kernel_rfl) (fun _ _ _ h => h) (Or.inl ⟨by rfl, ?dy5⟩) (by assumption) ?dr5
          case dy5 => (intro w hSw; (try dsimp only at hSw); go_simp; try (with_reducible rfl))
          case dr5 =>
          try simp only [Act.put, List.setIfInBounds_toArray, List.set_cons_zero, List.set_cons_succ]
          refine wpAnyH_take (i := 7) (oi := { dst := some 61, op := Go.Op.move (Go.Operand.tmp 0), type := 90, pos := "intake.go:28", after := #[], guard := none }) (v := ?dv7) rfl (by kernel_rfl) (by kernel_rfl) (by kernel_rfl) (fun _ _ _ h => h) (Or.inl ⟨by rfl, ?dy7⟩) (by assumption) ?dr7
          case dy7 => (intro w hSw; (try dsimp only at hSw); go_simp; try (with_reducible rfl))
          case dr7 =>
          try simp only [Act.put, List.setIfInBounds_toArray, List.set_cons_zero, List.set_cons_succ]
          refine wpAnyH_take (i := 8) (oi := { dst := some 62, op := Go.Op.nilCheck (Go.Operand.tmp 61), type := 0, pos := "intake.go:28", after := #[{ on := 7, ground := Go.Ground.data }], guard := none }) (v := ?dv8) rfl (by kernel_rfl) (by kernel_rfl) (by kernel_rfl) (fun _ _ _ h => h) (Or.inl ⟨by rfl, ?dy8⟩) (by assumption) ?dr8
          case dy8 => (intro w hSw; (try dsimp only at hSw); go_simp; try (with_reducible rfl))
          case dr8 =>
          try simp only [Act.put, List.setIfInBounds_toArray, List.set_cons_zero, List.set_cons_succ]
          refine wpAnyH_take (i := 9) (oi := { dst := some 63, op := Go.Op.fieldAddr 83 (Go.Operand.tmp 62) 1, type := 0, pos := "intake.go:28", after := #[{ on := 8, ground := Go.Ground.data }], guard := none }) (v := ?dv9) rfl (by kernel_rfl) (by kernel_rfl) (by kernel_rfl) (fun _ _ _ h => h) (Or.inl ⟨by rfl, ?dy9⟩) (by assumption) ?dr9
          case dy9 => (intro w hSw; (try dsimp only at hSw); go_simp; try (with_reducible rfl))
          case dr9 =>
          try simp only [Act.put, List.setIfInBounds_toArray, List.set_cons_zero, List.set_cons_succ]
          refine wpAnyH_take (i := 10) (oi := { dst := some 64, op := Go.Op.fieldAddr 81 (Go.Operand.tmp 4) 0, type := 0, pos := "intake.go:28", after := #[], guard := none }) (v := ?dv10) rfl (by kernel_rfl) (by kernel_rfl) (by kernel_rfl) (fun _ _ _ h => h) (Or.inl ⟨by rfl, ?dy10⟩) (by assumption) ?dr10
          case dy10 => (intro w hSw; (try dsimp only at hSw); go_simp; try (with_reducible rfl))
          case dr10 =>
          try simp only [Act.put, List.setIfInBounds_toArray, List.set_cons_zero, List.set_cons_succ]
          refine wpAnyH_take (i := 11) (oi := { dst := some 65, op := Go.Op.load 3 (Go.Operand.tmp 64), type := 3, pos := "intake.go:28", after := #[{ on := 10, ground := Go.Ground.data }], guard := none }) (v := ?dv11) rfl (by kernel_rfl) (by kernel_rfl) (by kernel_rfl) (fun _ _ _ h => h) (Or.inl ⟨by rfl, ?dy11⟩) (by assumption) ?dr11
          case dy11 => (intro w hSw; (try dsimp only at hSw); go_simp; try (with_reducible rfl))
          case dr11 =>
          try simp only [Act.put, List.setIfInBounds_toArray, List.set_cons_zero, List.set_cons_succ]
          refine wpAnyH_take (i := 12) (oi := { dst := some 66, op := Go.Op.slice 41 (Go.Operand.tmp 63) none (some (Go.Operand.tmp 65)) none, type := 22, pos := "intake.go:28", after := #[{ on := 9, ground := Go.Ground.data }, { on := 11, ground := Go.Ground.data }], guard := none }) (v := Value.slice (some ⟨g, 8, none⟩) 128 128) rfl (by kernel_rfl) (by kernel_rfl) (by kernel_rfl) (fun _ _ _ h => h) (Or.inl ⟨by rfl, ?dy12⟩) (by assumption) ?dr12
          case dy12 => (intro w hSw; (try dsimp only at hSw); go_simp; try (with_reducible rfl))
          case dr12 =>
          try simp only [Act.put, List.setIfInBounds_toArray, List.set_cons_zero, List.set_cons_succ]
          refine wpAnyH_ready (rs := [6]) (by kernel_rfl) (by simp) ?_
          refine AllReadyH.cons (o := { dst := some 60, op := Go.Op.load 55 (Go.Operand.tmp 59), type := 55, pos := "intake.go:28", after := #[{ on := 5, ground := Go.Ground.data }], guard := none }) rfl (fun K hK => ?_) (AllReadyH.nil)
          simp only [Region.wanted, if_true]
          refine wp_load_mid 55 (.tmp 59) rfl g 0 rfl L _ HRA.out Tryd.underlying55 rfl HI.out ?_
          refine hK.out _ _ ?_ (fun hHeld => ?_)
          · exact hHeld
          clear hK K
          try simp only [Act.put, List.setIfInBounds_toArray, List.set_cons_zero, List.set_cons_succ]
          refine wpAnyH_ready (rs := [13]) (by kernel_rfl) (by simp) ?_
          refine AllReadyH.cons (o := { dst := some 67, op := Go.Op.call { callee := Go.Callee.value (Go.Operand.tmp 56), args := #[Go.Operand.tmp 60, Go.Operand.tmp 66], argTypes := #[55, 22] }, type := 55, pos := "intake.go:28", after := #[{ on := 2, ground := Go.Ground.data }, { on := 6, ground := Go.Ground.data }, { on := 12, ground := Go.Ground.data }], guard := none }) rfl (fun K hK => ?_) (AllReadyH.nil)
          go_simp
          refine (STEP.out).mono ?_
          rintro e w5 ⟨rfl, hb5⟩
          go_simp
          have B5 := Lib.hid (show Below w4.heap.size w4 w5 from ⟨hb5.os, hb5.tape, hb5.output, hb5.size, hb5.block⟩)
          have rG6 := RG5.out.below B5.out RG5.out.lt
          have th6 := Lib.hid (show w5.there g 0 M.toArray.size from rG6.there (by rw [inRow_length _ (S8.list_length s) HRL.out, List.size_toArray, HML.out]; decide))
          have RG6 := Lib.hid rG6
          clear hb5 rG6
          refine hK.out _ _ ?_ (fun hHeld => ?_)
          · exact ⟨(RK5.out.below B5.out RK5.out.lt).cell rfl, (RK5.out.below B5.out RK5.out.lt).cell rfl⟩
          clear hK K
          try simp only [Act.put, List.setIfInBounds_toArray, List.set_cons_zero, List.set_cons_succ]
          refine wpAnyH_take (i := 14) (oi := { dst := some 68, op := Go.Op.nilCheck (Go.Operand.tmp 54), type := 0, pos := "intake.go:28", after := #[{ on := 0, ground := Go.Ground.data }, { on := 0, ground := Go.Ground.phase }, { on := 1, ground := Go.Ground.phase }, { on := 2, ground := Go.Ground.phase }, { on := 3, ground := Go.Ground.phase }, { on := 4, ground := Go.Ground.phase }, { on := 5, ground := Go.Ground.phase }, { on := 6, ground := Go.Ground.phase }, { on := 7, ground := Go.Ground.phase }, { on := 8, ground := Go.Ground.phase }, { on := 9, ground := Go.Ground.phase }, { on := 10, ground := Go.Ground.phase }, { on := 11, ground := Go.Ground.phase }, { on := 12, ground := Go.Ground.phase }, { on := 13, ground := Go.Ground.phase }], guard := none }) (v := ?d_6_13v14) rfl (by kernel_rfl) (by kernel_rfl) (by kernel_rfl) (fun _ _ _ h => h) (Or.inl ⟨by rfl, ?d_6_13y14⟩) (by assumption) ?d_6_13r14
          case d_6_13y14 => (intro w hSw; (try dsimp only at hSw); go_simp; try (with_reducible rfl))
          case d_6_13r14 =>
          try simp only [Act.put, List.setIfInBounds_toArray, List.set_cons_zero, List.set_cons_succ]
          refine wpAnyH_take (i := 15) (oi := { dst := some 69, op := Go.Op.fieldAddr 83 (Go.Operand.tmp 68) 0, type := 0, pos := "intake.go:28", after := #[{ on := 14, ground := Go.Ground.data }, { on := 0, ground := Go.Ground.phase }, { on := 1, ground := Go.Ground.phase }, { on := 2, ground := Go.Ground.phase }, { on := 3, ground := Go.Ground.phase }, { on := 4, ground := Go.Ground.phase }, { on := 5, ground := Go.Ground.phase }, { on := 6, ground := Go.Ground.phase }, { on := 7, ground := Go.Ground.phase }, { on := 8, ground := Go.Ground.phase }, { on := 9, ground := Go.Ground.phase }, { on := 10, ground := Go.Ground.phase }, { on := 11, ground := Go.Ground.phase }, { on := 12, ground := Go.Ground.phase }, { on := 13, ground := Go.Ground.phase }], guard := none }) (v := ?d_6_13v15) rfl (by kernel_rfl) (by kernel_rfl) (by kernel_rfl) (fun _ _ _ h => h) (Or.inl ⟨by rfl, ?d_6_13y15⟩) (by assumption) ?d_6_13r15
          case d_6_13y15 => (intro w hSw; (try dsimp only at hSw); go_simp; try (with_reducible rfl))
          case d_6_13r15 =>
          try simp only [Act.put, List.setIfInBounds_toArray, List.set_cons_zero, List.set_cons_succ]
          refine wpAnyH_ready (rs := [16]) (by kernel_rfl) (by simp) ?_
          refine AllReadyH.cons (o := { dst := none, op := Go.Op.store 55 (Go.Operand.tmp 69) (Go.Operand.tmp 67), type := 0, pos := "intake.go:28", after := #[{ on := 15, ground := Go.Ground.data }, { on := 13, ground := Go.Ground.data }, { on := 13, ground := Go.Ground.chain }, { on := 0, ground := Go.Ground.phase }, { on := 1, ground := Go.Ground.phase }, { on := 2, ground := Go.Ground.phase }, { on := 3, ground := Go.Ground.phase }, { on := 4, ground := Go.Ground.phase }, { on := 5, ground := Go.Ground.phase }, { on := 6, ground := Go.Ground.phase }, { on := 7, ground := Go.Ground.phase }, { on := 8, ground := Go.Ground.phase }, { on := 9, ground := Go.Ground.phase }, { on := 10, ground := Go.Ground.phase }, { on := 11, ground := Go.Ground.phase }, { on := 12, ground := Go.Ground.phase }, { on := 13, ground := Go.Ground.phase }], guard := none }) rfl (fun K hK => ?_) (AllReadyH.nil)
          simp only [Region.wanted, if_true]
          refine wp_store_mid 55 (.tmp 69) (.tmp 67) rfl g 0 M.toArray rfl rfl th6.out HI2.out HO.out ?_
          refine hK.out _ _ ?_ (fun hHeld => ?_)
          · exact ⟨(VRow.setCells_other (by omega) _ (RK5.out.below B5.out RK5.out.lt)).cell rfl, (VRow.setCells_other (by omega) _ (RK5.out.below B5.out RK5.out.lt)).cell rfl⟩
          clear hK K
          try simp only [Act.put]
          refine wpAnyH_done (by kernel_rfl) ?_ _
          have tT6 : Turns (· = g) w4 (w5.setCells g 0 M) := Turns.setCells (S := (· = g)) (fun _ => rfl) _ (Turns.of_below (S := (· = g)) B5.out)
          have rG7 := VRow.setCells M (o := 0) RG6.out (by rw [inRow_length _ (S8.list_length s) HRL.out, HML.out]; decide)
          have hu := inRow_words (us := (comp512 s bs).list) N (rest := R) (S8.list_length s) rfl
          rw [← HMM.out] at hu
          rw [hu] at rG7
          obtain ⟨w6, hw6⟩ : ∃ x, x = w5.setCells g 0 M := ⟨_, rfl⟩
          rw [← hw6] at tT6 rG7 ⊢
          have rK7 := RK5.out.turns tT6 (by omega)
          have tK7 := TK5.out.trans tT6 (fun _ _ h => h)
          have sr7 := SR5.out.turns tT6 (fun _ h => h)
          have hsl := run_tail A b.length c n (by have := HN3.out; omega)
          have sr8 := sr7.tail (z := n) (by have := HN3.out; omega)
          have hmid : Mid w g K t (m ++ b) (.slice (if c = n then A else A.map (fun x => x.add n)) (b.length - n) (c - n)) w6 := by
            have hnm : n + m.length % 128 = 128 := by have := HNB.out; have := HR.out; omega
            refine ⟨m.length / 128 + 1, R, ?_, HRL.out, ?_, ?_, rK7, tK7⟩
            · have := HN3.out; rw [List.length_append]; omega
            · rw [join_rest hnm]; exact sr8
            · rw [blocks512_next hnm, ← HBS.out, ← HS.out, ← HN.out]; exact rG7
          have HMID := Lib.hid hmid
          obtain ⟨A2, hA2⟩ : ∃ A2, A2 = if c = n then A else A.map (fun x => x.add n) := ⟨_, rfl⟩
          rw [← hA2] at hsl HMID
          clear hmid hw6 tT6 rG7 hu rK7 tK7 sr7 sr8 hA2 hHeld RG6 B5 th6
          go_wp2_with fail
          go_meet
          exact HMID.out
      · obtain rfl : r = 0 := by omega
        go_wp2_with fail
        go_meet
        have hm64 : 128 * (m.length / 128) = m.length := by have := HR.out; omega
        refine ⟨m.length / 128, rest, by rw [List.length_append]; omega, HT.out.size, ?_, ?_, RK4.out, TK4.out⟩
        · rw [hm64, List.drop_left]; exact SR4.out
        · rw [blocks512_same, ← HS.out, ← HN.out]; exact RG4.out
    case rest =>
      have HMID := Lib.hid hcut
      clear hcut RG4 RK4 TK4 CU4 SR4 HS HR hr64
      go_wp2_with fail
      go_loopw [2] (fun v wr => Mid w g K t (m ++ b) v wr) (fun v _ => slen v)
      case atStart => exact HMID.out
      case round =>
        obtain ⟨q, rest2, hq, hrl, sr, rG, rK, tK⟩ := hrel
        obtain ⟨bs, hbs⟩ : ∃ bs, bs = (m ++ b).drop (128 * q) := ⟨_, rfl⟩
        rw [← hbs] at sr
        obtain ⟨A3, c3, rfl, hbc3, hcm3⟩ := sr.form
        have hbl : bs.length = N - 128 * q := by rw [hbs, List.length_drop, ← HN.out]
        obtain ⟨s2, hs2⟩ : ∃ s2, s2 = blocks512 (m ++ b) q := ⟨_, rfl⟩
        rw [← hs2, ← HN.out] at rG
        have hNq : 128 * q ≤ N := by rw [HN.out]; exact hq
        have k0 : wr.cell? ⟨K, 0, none⟩ = some (.int .i64 128) := rK.cell rfl
        have cu : CubeIs wr := C0.out.turns tK hcg
        have HQ := Lib.hid hq
        have HBS := Lib.hid hbs
        have HBL := Lib.hid hbl
        have HS2 := Lib.hid hs2
        have HRL := Lib.hid hrl
        clear hq hbs hbl hs2 hrl
        by_cases h64 : 128 ≤ bs.length
        · obtain ⟨bb, o, rfl, hbb, hbg, hcell⟩ : ∃ bb o, A3 = some ⟨bb, o, none⟩ ∧ bb < wr.heap.size ∧ bb ≠ g ∧ ∀ (j : Nat) (u : UInt8), bs[j]? = some u → wr.cell? ⟨bb, o + j, none⟩ = some (bv u) := by
            obtain ⟨A', c', e, _, _, _, h⟩ := sr
            obtain ⟨bb, o, e2, h2⟩ := h (by intro h0; rw [h0] at h64; simp at h64)
            injection e with e3
            exact ⟨bb, o, e3.trans e2, h2⟩
          have i1 : (128 : Int) ≤ (bs.length : Int) := by omega
          have i2 : (128 : Int) ≤ (c3 : Int) := by omega
          obtain ⟨ys, hys⟩ : ∃ ys, ys = bs.take 128 := ⟨_, rfl⟩
          have hyl : ys.length = 128 := by rw [hys, List.length_take]; omega
          have hsok : s2.Ok := by rw [HS2.out]; exact blocks512_ok _ _
          have STEP := Lib.hid (step512_any bb o c3 s2 ys wr.drew hsok hyl (by omega) hcm3 hbb (fun j u hu => hcell j u (by rw [hys, List.getElem?_take] at hu; split at hu; exact hu; exact absurd hu (by simp))) cu)
          obtain ⟨L, hL⟩ : ∃ L, L = s2.list.map (Value.int .u64) := ⟨_, rfl⟩
          obtain ⟨M, hM⟩ : ∃ M, M = (comp512 s2 ys).list.map (Value.int .u64) := ⟨_, rfl⟩
          rw [← hL, ← hM] at STEP
          have hLl : L.length = 8 := by rw [hL]; rfl
          have hMl : M.length = 8 := by rw [hM]; rfl
          have HI := Lib.hid (show (Tryd.prog.info? 55).map (·.size) = some L.length by rw [hLl]; exact info_8)
          have HI2 := Lib.hid (show (Tryd.prog.info? 55).map (·.size) = some M.toArray.size by rw [List.size_toArray, hMl]; exact info_8)
          have HO := Lib.hid (show M.toArray.all (·.oneCell') = true by rw [hM]; exact words_one _)
          have HRA := Lib.hid (show wr.drew.rangeAt g 0 L from VRow.range (w := wr) rG (by
            intro j x hx
            rw [hL, List.getElem?_map] at hx
            cases hy : s2.list[j]? with
            | none => rw [hy] at hx; exact absurd hx (by simp)
            | some y =>
              rw [hy] at hx
              obtain rfl : Value.int .u64 y = x := Option.some.inj hx
              rw [Nat.zero_add]
              exact inRow_word N hy))
          have k9 : wr.cell? ⟨K, 9, none⟩ = some (.func (.func 38) #[] #[]) := rK.cell rfl
          have RG := Lib.hid rG
          have RK := Lib.hid rK
          have TK := Lib.hid tK
          have SR := Lib.hid sr
          have HYS := Lib.hid hys
          have HML := Lib.hid hMl
          have HMM := Lib.hid hM
          clear rG rK tK sr cu hys hyl hsok hL hM hLl hMl hcell
          go_wp2_with fail
          refine wp_region_held_drew (S := (fun w' => w'.cell? ⟨K, 0, none⟩ = some (.int .i64 128) ∧ w'.cell? ⟨K, 9, none⟩ = some (.func (.func 38) #[] #[]))) (by kernel_rfl) ?_ (fun hHeld => ?_)
          · exact ⟨k0, k9⟩
          refine wpAnyH_take (i := 0) (oi := { dst := some 78, op := Go.Op.move (Go.Operand.tmp 0), type := 90, pos := "intake.go:32", after := #[], guard := none }) (v := ?ev0) rfl (by kernel_rfl) (by kernel_rfl) (by kernel_rfl) (fun _ _ _ h => h) (Or.inl ⟨by rfl, ?ey0⟩) (by assumption) ?er0
          case ey0 => (intro w hSw; (try dsimp only at hSw); go_simp; try (with_reducible rfl))
          case er0 =>
          try simp only [Act.put, List.setIfInBounds_toArray, List.set_cons_zero, List.set_cons_succ]
          refine wpAnyH_take (i := 1) (oi := { dst := some 79, op := Go.Op.fieldAddr 81 (Go.Operand.tmp 4) 2, type := 0, pos := "intake.go:32", after := #[], guard := none }) (v := ?ev1) rfl (by kernel_rfl) (by kernel_rfl) (by kernel_rfl) (fun _ _ _ h => h) (Or.inl ⟨by rfl, ?ey1⟩) (by assumption) ?er1
          case ey1 => (intro w hSw; (try dsimp only at hSw); go_simp; try (with_reducible rfl))
          case er1 =>
          try simp only [Act.put, List.setIfInBounds_toArray, List.set_cons_zero, List.set_cons_succ]
          refine wpAnyH_take (i := 2) (oi := { dst := some 80, op := Go.Op.load 79 (Go.Operand.tmp 79), type := 79, pos := "intake.go:32", after := #[{ on := 1, ground := Go.Ground.data }], guard := none }) (v := ?ev2) rfl (by kernel_rfl) (by kernel_rfl) (by kernel_rfl) (fun _ _ _ h => h) (Or.inl ⟨by rfl, ?ey2⟩) (by assumption) ?er2
          case ey2 => (intro w hSw; (try dsimp only at hSw); go_simp; try (with_reducible rfl))
          case er2 =>
          try simp only [Act.put, List.setIfInBounds_toArray, List.set_cons_zero, List.set_cons_succ]
          refine wpAnyH_take (i := 3) (oi := { dst := some 81, op := Go.Op.move (Go.Operand.tmp 0), type := 90, pos := "intake.go:32", after := #[], guard := none }) (v := ?ev3) rfl (by kernel_rfl) (by kernel_rfl) (by kernel_rfl) (fun _ _ _ h => h) (Or.inl ⟨by rfl, ?ey3⟩) (by assumption) ?er3
          case ey3 => (intro w hSw; (try dsimp only at hSw); go_simp; try (with_reducible rfl))
          case er3 =>
          try simp only [Act.put, List.setIfInBounds_toArray, List.set_cons_zero, List.set_cons_succ]
          refine wpAnyH_take (i := 4) (oi := { dst := some 82, op := Go.Op.nilCheck (Go.Operand.tmp 81), type := 0, pos := "intake.go:32", after := #[{ on := 3, ground := Go.Ground.data }], guard := none }) (v := ?ev4) rfl (by kernel_rfl) (by kernel_rfl) (by kernel_rfl) (fun _ _ _ h => h) (Or.inl ⟨by rfl, ?ey4⟩) (by assumption) ?er4
          case ey4 => (intro w hSw; (try dsimp only at hSw); go_simp; try (with_reducible rfl))
          case er4 =>
          try simp only [Act.put, List.setIfInBounds_toArray, List.set_cons_zero, List.set_cons_succ]
          refine wpAnyH_take (i := 5) (oi := { dst := some 83, op := Go.Op.fieldAddr 83 (Go.Operand.tmp 82) 0, type := 0, pos := "intake.go:32", after := #[{ on := 4, ground := Go.Ground.data }], guard := none }) (v := ?ev5) rfl (by kernel_rfl) (by kernel_rfl) (by kernel_rfl) (fun _ _ _ h => h) (Or.inl ⟨by rfl, ?ey5⟩) (by assumption) ?er5
          case ey5 => (intro w hSw; (try dsimp only at hSw); go_simp; try (with_reducible rfl))
          case er5 =>
          try simp only [Act.put, List.setIfInBounds_toArray, List.set_cons_zero, List.set_cons_succ]
          refine wpAnyH_take (i := 7) (oi := { dst := some 85, op := Go.Op.move (Go.Operand.tmp 2), type := 22, pos := "intake.go:32", after := #[], guard := none }) (v := ?ev7) rfl (by kernel_rfl) (by kernel_rfl) (by kernel_rfl) (fun _ _ _ h => h) (Or.inl ⟨by rfl, ?ey7⟩) (by assumption) ?er7
          case ey7 => (intro w hSw; (try dsimp only at hSw); go_simp; try (with_reducible rfl))
          case er7 =>
          try simp only [Act.put, List.setIfInBounds_toArray, List.set_cons_zero, List.set_cons_succ]
          refine wpAnyH_take (i := 8) (oi := { dst := some 86, op := Go.Op.fieldAddr 81 (Go.Operand.tmp 4) 0, type := 0, pos := "intake.go:32", after := #[], guard := none }) (v := ?ev8) rfl (by kernel_rfl) (by kernel_rfl) (by kernel_rfl) (fun _ _ _ h => h) (Or.inl ⟨by rfl, ?ey8⟩) (by assumption) ?er8
          case ey8 => (intro w hSw; (try dsimp only at hSw); go_simp; try (with_reducible rfl))
          case er8 =>
          try simp only [Act.put, List.setIfInBounds_toArray, List.set_cons_zero, List.set_cons_succ]
          refine wpAnyH_take (i := 9) (oi := { dst := some 87, op := Go.Op.load 3 (Go.Operand.tmp 86), type := 3, pos := "intake.go:32", after := #[{ on := 8, ground := Go.Ground.data }], guard := none }) (v := ?ev9) rfl (by kernel_rfl) (by kernel_rfl) (by kernel_rfl) (fun _ _ _ h => h) (Or.inl ⟨by rfl, ?ey9⟩) (by assumption) ?er9
          case ey9 => (intro w hSw; (try dsimp only at hSw); go_simp; try (with_reducible rfl))
          case er9 =>
          try simp only [Act.put, List.setIfInBounds_toArray, List.set_cons_zero, List.set_cons_succ]
          refine wpAnyH_take (i := 10) (oi := { dst := some 88, op := Go.Op.slice 22 (Go.Operand.tmp 85) none (some (Go.Operand.tmp 87)) none, type := 22, pos := "intake.go:32", after := #[{ on := 7, ground := Go.Ground.data }, { on := 9, ground := Go.Ground.data }], guard := none }) (v := Value.slice (some ⟨bb, o, none⟩) 128 c3) rfl (by kernel_rfl) (by kernel_rfl) (by kernel_rfl) (fun _ _ _ h => h) (Or.inl ⟨by rfl, ?ey10⟩) (by assumption) ?er10
          case ey10 => (intro w hSw; (try dsimp only at hSw); go_simp; try (with_reducible rfl))
          case er10 =>
          try simp only [Act.put, List.setIfInBounds_toArray, List.set_cons_zero, List.set_cons_succ]
          refine wpAnyH_ready (rs := [6]) (by kernel_rfl) (by simp) ?_
          refine AllReadyH.cons (o := { dst := some 84, op := Go.Op.load 55 (Go.Operand.tmp 83), type := 55, pos := "intake.go:32", after := #[{ on := 5, ground := Go.Ground.data }], guard := none }) rfl (fun K hK => ?_) (AllReadyH.nil)
          simp only [Region.wanted, if_true]
          refine wp_load_mid 55 (.tmp 83) rfl g 0 rfl L _ HRA.out Tryd.underlying55 rfl HI.out ?_
          refine hK.out _ _ ?_ (fun hHeld => ?_)
          · exact hHeld
          clear hK K
          try simp only [Act.put, List.setIfInBounds_toArray, List.set_cons_zero, List.set_cons_succ]
          refine wpAnyH_ready (rs := [11]) (by kernel_rfl) (by simp) ?_
          refine AllReadyH.cons (o := { dst := some 89, op := Go.Op.call { callee := Go.Callee.value (Go.Operand.tmp 80), args := #[Go.Operand.tmp 84, Go.Operand.tmp 88], argTypes := #[55, 22] }, type := 55, pos := "intake.go:32", after := #[{ on := 2, ground := Go.Ground.data }, { on := 6, ground := Go.Ground.data }, { on := 10, ground := Go.Ground.data }], guard := none }) rfl (fun K hK => ?_) (AllReadyH.nil)
          go_simp
          refine (STEP.out).mono ?_
          rintro e w5 ⟨rfl, hb5⟩
          go_simp
          have B5 := Lib.hid (show Below wr.heap.size wr w5 from ⟨hb5.os, hb5.tape, hb5.output, hb5.size, hb5.block⟩)
          have rG6 := RG.out.below B5.out RG.out.lt
          have th6 := Lib.hid (show w5.there g 0 M.toArray.size from rG6.there (by rw [inRow_length _ (S8.list_length s2) HRL.out, List.size_toArray, HML.out]; decide))
          have RG6 := Lib.hid rG6
          clear hb5 rG6
          refine hK.out _ _ ?_ (fun hHeld => ?_)
          · exact ⟨(RK.out.below B5.out RK.out.lt).cell rfl, (RK.out.below B5.out RK.out.lt).cell rfl⟩
          clear hK K
          try simp only [Act.put, List.setIfInBounds_toArray, List.set_cons_zero, List.set_cons_succ]
          refine wpAnyH_take (i := 12) (oi := { dst := some 90, op := Go.Op.nilCheck (Go.Operand.tmp 78), type := 0, pos := "intake.go:32", after := #[{ on := 0, ground := Go.Ground.data }, { on := 0, ground := Go.Ground.phase }, { on := 1, ground := Go.Ground.phase }, { on := 2, ground := Go.Ground.phase }, { on := 3, ground := Go.Ground.phase }, { on := 4, ground := Go.Ground.phase }, { on := 5, ground := Go.Ground.phase }, { on := 6, ground := Go.Ground.phase }, { on := 7, ground := Go.Ground.phase }, { on := 8, ground := Go.Ground.phase }, { on := 9, ground := Go.Ground.phase }, { on := 10, ground := Go.Ground.phase }, { on := 11, ground := Go.Ground.phase }], guard := none }) (v := ?e_6_11v12) rfl (by kernel_rfl) (by kernel_rfl) (by kernel_rfl) (fun _ _ _ h => h) (Or.inl ⟨by rfl, ?e_6_11y12⟩) (by assumption) ?e_6_11r12
          case e_6_11y12 => (intro w hSw; (try dsimp only at hSw); go_simp; try (with_reducible rfl))
          case e_6_11r12 =>
          try simp only [Act.put, List.setIfInBounds_toArray, List.set_cons_zero, List.set_cons_succ]
          refine wpAnyH_take (i := 13) (oi := { dst := some 91, op := Go.Op.fieldAddr 83 (Go.Operand.tmp 90) 0, type := 0, pos := "intake.go:32", after := #[{ on := 12, ground := Go.Ground.data }, { on := 0, ground := Go.Ground.phase }, { on := 1, ground := Go.Ground.phase }, { on := 2, ground := Go.Ground.phase }, { on := 3, ground := Go.Ground.phase }, { on := 4, ground := Go.Ground.phase }, { on := 5, ground := Go.Ground.phase }, { on := 6, ground := Go.Ground.phase }, { on := 7, ground := Go.Ground.phase }, { on := 8, ground := Go.Ground.phase }, { on := 9, ground := Go.Ground.phase }, { on := 10, ground := Go.Ground.phase }, { on := 11, ground := Go.Ground.phase }], guard := none }) (v := ?e_6_11v13) rfl (by kernel_rfl) (by kernel_rfl) (by kernel_rfl) (fun _ _ _ h => h) (Or.inl ⟨by rfl, ?e_6_11y13⟩) (by assumption) ?e_6_11r13
          case e_6_11y13 => (intro w hSw; (try dsimp only at hSw); go_simp; try (with_reducible rfl))
          case e_6_11r13 =>
          try simp only [Act.put, List.setIfInBounds_toArray, List.set_cons_zero, List.set_cons_succ]
          refine wpAnyH_ready (rs := [14]) (by kernel_rfl) (by simp) ?_
          refine AllReadyH.cons (o := { dst := none, op := Go.Op.store 55 (Go.Operand.tmp 91) (Go.Operand.tmp 89), type := 0, pos := "intake.go:32", after := #[{ on := 13, ground := Go.Ground.data }, { on := 11, ground := Go.Ground.data }, { on := 11, ground := Go.Ground.chain }, { on := 0, ground := Go.Ground.phase }, { on := 1, ground := Go.Ground.phase }, { on := 2, ground := Go.Ground.phase }, { on := 3, ground := Go.Ground.phase }, { on := 4, ground := Go.Ground.phase }, { on := 5, ground := Go.Ground.phase }, { on := 6, ground := Go.Ground.phase }, { on := 7, ground := Go.Ground.phase }, { on := 8, ground := Go.Ground.phase }, { on := 9, ground := Go.Ground.phase }, { on := 10, ground := Go.Ground.phase }, { on := 11, ground := Go.Ground.phase }], guard := none }) rfl (fun K hK => ?_) (AllReadyH.nil)
          simp only [Region.wanted, if_true]
          refine wp_store_mid 55 (.tmp 91) (.tmp 89) rfl g 0 M.toArray rfl rfl th6.out HI2.out HO.out ?_
          refine hK.out _ _ ?_ (fun hHeld => ?_)
          · exact ⟨(VRow.setCells_other (by omega) _ (RK.out.below B5.out RK.out.lt)).cell rfl, (VRow.setCells_other (by omega) _ (RK.out.below B5.out RK.out.lt)).cell rfl⟩
          clear hK K
          try simp only [Act.put]
          refine wpAnyH_done (by kernel_rfl) ?_ _
          have tT6 : Turns (· = g) wr (w5.setCells g 0 M) := Turns.setCells (S := (· = g)) (fun _ => rfl) _ (Turns.of_below (S := (· = g)) B5.out)
          have rG7 := VRow.setCells M (o := 0) RG6.out (by rw [inRow_length _ (S8.list_length s2) HRL.out, HML.out]; decide)
          have hu := inRow_words (us := (comp512 s2 ys).list) N (rest := rest2) (S8.list_length s2) rfl
          rw [← HMM.out] at hu
          rw [hu] at rG7
          obtain ⟨w6, hw6⟩ : ∃ x, x = w5.setCells g 0 M := ⟨_, rfl⟩
          rw [← hw6] at tT6 rG7 ⊢
          have rK7 := RK.out.turns tT6 (by omega)
          have tK7 := TK.out.trans tT6 (fun _ _ h => h)
          have sr7 := SR.out.turns tT6 (fun _ h => h)
          have hsl := run_tail (some ⟨bb, o, none⟩) bs.length c3 128 h64
          have e64 : ((128 : Nat) : Int) = 128 := rfl
          rw [e64] at hsl
          have sr8 := sr7.tail (z := 128) h64
          have hmid : Mid w g K t (m ++ b) (.slice (if c3 = 128 then some ⟨bb, o, none⟩ else (some ⟨bb, o, none⟩ : Option Addr).map (fun x => x.add 128)) (bs.length - 128) (c3 - 128)) w6 := by
            refine ⟨q + 1, rest2, by rw [← HN.out]; have := HBL.out; omega, HRL.out, ?_, ?_, rK7, tK7⟩
            · have e : 128 * (q + 1) = 128 * q + 128 := by omega
              rw [e, ← List.drop_drop, ← HBS.out]; exact sr8
            · rw [blocks512, ← HBS.out, ← HS2.out, ← HYS.out, ← HN.out]; exact rG7
          have HMID := Lib.hid hmid
          have k07 : w6.cell? ⟨K, 0, none⟩ = some (.int .i64 128) := rK7.cell rfl
          obtain ⟨A2, hA2⟩ : ∃ A2, A2 = if c3 = 128 then some ⟨bb, o, none⟩ else (some ⟨bb, o, none⟩ : Option Addr).map (fun x => x.add 128) := ⟨_, rfl⟩
          rw [← hA2] at hsl HMID
          clear hmid hw6 tT6 rG7 hu rK7 tK7 sr7 sr8 hA2 hHeld RG6 B5 th6 e64 k0 k9
          go_wp2_with fail
          exact ⟨HMID.out, by simp only [slen]; omega⟩
        · have d0 : ¬ (128 : Int) ≤ (bs.length : Int) := by omega
          have hover : over (inRow s2.list rest2 N) 8 (bs.take bs.length) = inRow s2.list (laid rest2 0 (nums bs)) N := by
            have h := inRow_laid (ws := s2.list) (rest := rest2) (ns := nums bs) N (k := 0) rfl (by rw [nums_length, HRL.out]; omega)
            rw [nums_bv] at h
            rw [List.take_length]
            exact h
          have hfin : ∀ w', VRow w' g t (inRow s2.list (laid rest2 0 (nums bs)) N) → Turns (· = g) w w' → Fed w g t (m ++ b) (.returned (.tuple #[])) w' := fun w' h1 h2 => by
            have hq : q = (m ++ b).length / 128 := by have := HBL.out; rw [← HN.out]; omega
            refine ⟨rfl, s2.list, laid rest2 0 (nums bs), ?_, rfl, by rw [← HN.out]; exact h1, h2⟩
            have h := Took.done (m := m ++ b) HRL.out
            rw [← hq, ← HBS.out, ← HS2.out] at h
            exact h
          have HFIN := Lib.hid hfin
          have tK9 : Turns (· = g) w (wr.setRow g (over (inRow s2.list rest2 N) 8 (bs.take bs.length)).toArray) := tK.setRow (fun _ => rfl) _
          have rG9 : VRow (wr.setRow g (over (inRow s2.list rest2 N) 8 (bs.take bs.length)).toArray) g t (inRow s2.list (laid rest2 0 (nums bs)) N) := by rw [hover]; exact rG.setRow _
          have RG := Lib.hid rG
          have SR := Lib.hid sr
          have TK9 := Lib.hid tK9
          have RG9 := Lib.hid rG9
          have HF := Lib.hid (show 8 + bs.length ≤ (inRow s2.list rest2 N).length by rw [inRow_length _ (S8.list_length s2) HRL.out]; omega)
          have HMN := Lib.hid (show bs.length = min bs.length 128 by omega)
          rw [List.take_length] at RG9 TK9
          clear rG sr tK tK9 rG9 hover hfin rK
          go_wp2_with (first
            | (refine wpList_copy_src rfl (.tmp 99) (.tmp 100) rfl g 8 128 128 t _ RG.out rfl rfl SR.out bs.length HMN.out HF.out ?_))
          exact bodyPost_end (results_none Tryd.results39 _ _ _) rfl (HFIN.out _ RG9.out TK9.out)
end Go.Proofs.YtpcopimbnbmkmaaDoor.S5

/-
  hash.Sum: Add, Hash; Sum256. Conditions: the sizes stay below 2^60; the roots are laid.
-/
namespace Go.Proofs.YtpcopimbnbmkmaaDoor
open Go.RowKit

theorem RootIs.turns {S : Nat → Prop} {w w' : World} (h : RootIs w) (ht : Turns S w w') (hS : ¬ S 0) : RootIs w' :=
  ⟨Nat.lt_of_lt_of_le h.1 ht.size, fun t k hk => (ht.cell (p := ⟨0, t, none⟩) h.1 hS).trans (h.2 t k hk)⟩

/-- The roots are laid. -/
structure Roots (w : World) : Prop where
  cube : CubeIs w
  root : RootIs w
theorem Roots.below {w w' : World} (h : Roots w) (hb : Below w.heap.size w w') : Roots w' := ⟨h.cube.below hb h.cube.1, h.root.below hb h.root.1⟩
/-- Block g is none of the roots'. -/
structure Off (g : Nat) : Prop where
  cube : 1 ≠ g
  root : 0 ≠ g
theorem Roots.off {w : World} (h : Roots w) {g : Nat} (hg : w.heap.size ≤ g) : Off g := ⟨by have := h.cube.1; omega, by have := h.root.1; omega⟩
theorem Roots.turns {w w' : World} {g : Nat} (h : Roots w) (ht : Turns (· = g) w w') (hg : Off g) : Roots w' := ⟨h.cube.turns ht hg.cube, h.root.turns ht hg.root⟩

/-- Block g begins with an intake that got the bytes m. -/
def SumIs (w : World) (g : Nat) (t : TypeId) (m : List UInt8) : Prop := ∃ ws rest, Took m ws rest ∧ ws.length = 8 ∧ VRow w g t (inRow ws rest m.length)
theorem SumIs.below {w w' : World} {g : Nat} {t : TypeId} {m : List UInt8} (h : SumIs w g t m) (hb : Below w.heap.size w w') : SumIs w' g t m := by
  obtain ⟨ws, rest, h1, h2, h3⟩ := h
  exact ⟨ws, rest, h1, h2, h3.below hb h3.lt⟩
theorem SumIs.turns {S : Nat → Prop} {w w' : World} {g : Nat} {t : TypeId} {m : List UInt8} (h : SumIs w g t m) (hb : Turns S w w') (hS : ¬ S g) : SumIs w' g t m := by
  obtain ⟨ws, rest, h1, h2, h3⟩ := h
  exact ⟨ws, rest, h1, h2, h3.turns hb hS⟩

set_option maxRecDepth 100000 in
set_option maxHeartbeats 3200000 in
theorem sumAdd_any (g : Nat) (t : TypeId) (m b : List UInt8) (v : Value) (W0 : World) (hsum : SumIs W0 g t m) (hsrc : Src W0 g v b) (hlen : m.length + b.length < 1152921504606846976) (hroots : Roots W0) (hoff : Off g) :
    Calls Tryd.prog 22 #[.pointer (some ⟨g, 0, none⟩), v] W0 fun e w' => e = .returned (.tuple #[]) ∧ SumIs w' g t (m ++ b) ∧ Turns (· = g) W0 w' := by
  obtain ⟨ws, rest, ht, hws, hrow⟩ := hsum
  have HT := Lib.hid ht
  have HWS := Lib.hid hws
  have HROW := Lib.hid hrow
  have HSRC := Lib.hid hsrc
  have HROOTS := Lib.hid hroots
  have HOFF := Lib.hid hoff
  clear ht hws hrow hsrc hroots hoff
  go_enter Tryd.func22, Tryd.ntmps22
  refine wp_region_held_drew (S := AnyW) (by kernel_rfl) ?_ (fun hHeld => ?_)
  · exact anyW _
  refine wpAnyH_take (i := 0) (oi := { dst := some 4, op := Go.Op.move (Go.Operand.tmp 0), type := 72, pos := "sha256.go:15", after := #[], guard := none }) (v := ?av0) rfl (by kernel_rfl) (by kernel_rfl) (by kernel_rfl) (fun _ _ _ h => h) (Or.inl ⟨by rfl, ?ay0⟩) (by assumption) ?ar0
  case ay0 => (intro w hSw; (try dsimp only at hSw); go_simp; try (with_reducible rfl))
  case ar0 =>
  try simp only [Act.put, List.setIfInBounds_toArray, List.set_cons_zero, List.set_cons_succ]
  refine wpAnyH_take (i := 1) (oi := { dst := some 5, op := Go.Op.nilCheck (Go.Operand.tmp 4), type := 0, pos := "sha256.go:15", after := #[{ on := 0, ground := Go.Ground.data }], guard := none }) (v := ?av1) rfl (by kernel_rfl) (by kernel_rfl) (by kernel_rfl) (fun _ _ _ h => h) (Or.inl ⟨by rfl, ?ay1⟩) (by assumption) ?ar1
  case ay1 => (intro w hSw; (try dsimp only at hSw); go_simp; try (with_reducible rfl))
  case ar1 =>
  try simp only [Act.put, List.setIfInBounds_toArray, List.set_cons_zero, List.set_cons_succ]
  refine wpAnyH_take (i := 2) (oi := { dst := some 6, op := Go.Op.fieldAddr 46 (Go.Operand.tmp 5) 0, type := 0, pos := "sha256.go:15", after := #[{ on := 1, ground := Go.Ground.data }], guard := none }) (v := ?av2) rfl (by kernel_rfl) (by kernel_rfl) (by kernel_rfl) (fun _ _ _ h => h) (Or.inl ⟨by rfl, ?ay2⟩) (by assumption) ?ar2
  case ay2 => (intro w hSw; (try dsimp only at hSw); go_simp; try (with_reducible rfl))
  case ar2 =>
  try simp only [Act.put, List.setIfInBounds_toArray, List.set_cons_zero, List.set_cons_succ]
  refine wpAnyH_take (i := 4) (oi := { dst := some 8, op := Go.Op.move (Go.Operand.tmp 1), type := 22, pos := "sha256.go:15", after := #[], guard := none }) (v := ?av4) rfl (by kernel_rfl) (by kernel_rfl) (by kernel_rfl) (fun _ _ _ h => h) (Or.inl ⟨by rfl, ?ay4⟩) (by assumption) ?ar4
  case ay4 => (intro w hSw; (try dsimp only at hSw); go_simp; try (with_reducible rfl))
  case ar4 =>
  try simp only [Act.put, List.setIfInBounds_toArray, List.set_cons_zero, List.set_cons_succ]
  refine wpAnyH_ready (rs := [3]) (by kernel_rfl) (by simp) ?_
  refine AllReadyH.cons (o := { dst := some 7, op := Go.Op.call { callee := Go.Callee.value (Go.Operand.func 37), args := #[], argTypes := #[] }, type := 76, pos := "sha256.go:15", after := #[], guard := none }) rfl (fun K hK => ?_) (AllReadyH.nil)
  go_simp
  refine (kind256_any W0.drew HROOTS.out.root).mono ?_
  rintro e w2 ⟨rfl, hb2⟩
  go_simp
  have B2 := Lib.hid (show Below W0.heap.size W0 w2 from ⟨hb2.os, hb2.tape, hb2.output, hb2.size, hb2.block⟩)
  clear hb2
  refine hK.out _ _ ?_ (fun hHeld => ?_)
  · exact anyW _
  clear hK K
  try simp only [Act.put, List.setIfInBounds_toArray, List.set_cons_zero, List.set_cons_succ]
  refine wpAnyH_ready (rs := [5]) (by kernel_rfl) (by simp) ?_
  refine AllReadyH.cons (o := { dst := some 9, op := Go.Op.call { callee := Go.Callee.value (Go.Operand.func 36), args := #[Go.Operand.tmp 6, Go.Operand.tmp 7, Go.Operand.tmp 8], argTypes := #[44, 76, 22] }, type := 0, pos := "sha256.go:15", after := #[{ on := 2, ground := Go.Ground.data }, { on := 3, ground := Go.Ground.data }, { on := 4, ground := Go.Ground.data }, { on := 3, ground := Go.Ground.chain }], guard := none }) rfl (fun K hK => ?_) (AllReadyH.nil)
  go_simp
  refine (add_any g t m b ws rest v w2 HT.out HWS.out (HROW.out.below B2.out HROW.out.lt) (HSRC.out.turns (Turns.of_below (S := (· = g)) B2.out) (fun _ h => h)) hlen (HROOTS.out.below B2.out).cube HOFF.out.cube).mono ?_
  rintro e w3 ⟨rfl, ws3, rest3, t3, l3, r3, tt3⟩
  go_simp
  refine hK.out _ _ ?_ (fun hHeld => ?_)
  · exact anyW _
  clear hK K
  try simp only [Act.put, List.setIfInBounds_toArray, List.set_cons_zero, List.set_cons_succ]
  refine wpAnyH_done (by kernel_rfl) ?_ _
  refine bodyPost_end (results_none Tryd.results22 _ _ _) rfl ⟨rfl, ⟨ws3, rest3, t3, l3, r3⟩, (Turns.of_below (S := (· = g)) B2.out).trans tt3 (fun _ _ h => h)⟩
end Go.Proofs.YtpcopimbnbmkmaaDoor

/-
  hash.Sum: Hash. Conditions: the size stays below 2^59; the roots are laid.
-/
namespace Go.Proofs.YtpcopimbnbmkmaaDoor
open Go.RowKit

/-- A digest as a value. -/
def digV (bs : List UInt8) : Value := .agg ((nums bs).map (Value.int .u8)).toArray
def zIn : List Value := inRow (List.replicate 8 0) (List.replicate 128 0) 0
theorem info_in : (Tryd.prog.info? 44).map (·.size) = some 137 := by kernel_rfl
theorem info_h : (Tryd.prog.info? 28).map (·.size) = some 32 := by kernel_rfl

theorem zero_in (W : World) : (zeroValue 44).run Tryd.prog W = .ok (.agg zIn.toArray) W := by kernel_rfl
theorem zero_sum (W : World) : (zeroValue 46).run Tryd.prog W = .ok (.agg zIn.toArray) W := by kernel_rfl
theorem zero_hash (W : World) : (zeroValue 28).run Tryd.prog W = .ok (.agg ((List.replicate 32 (0 : Int)).map (Value.int .u8)).toArray) W := by kernel_rfl
theorem inRow_one (ws rest : List Int) (n : Nat) : (inRow ws rest n).toArray.all (·.oneCell') = true := by
  refine all_oneCell_toArray fun v hv => ?_
  unfold inRow at hv
  rcases List.mem_append.1 hv with h | h
  · obtain ⟨x, _, rfl⟩ := List.mem_map.1 h; rfl
  · rcases List.mem_append.1 h with h | h
    · obtain ⟨x, _, rfl⟩ := List.mem_map.1 h; rfl
    · rw [List.mem_singleton.1 h]; rfl
theorem S8.mem_ok {s : S8} (h : s.Ok) {x : Int} (hx : x ∈ [s.a, s.b, s.c, s.d, s.e, s.f, s.g, s.h]) : U32 x := by
  simp only [List.mem_cons, List.not_mem_nil, or_false] at hx
  rcases hx with rfl | rfl | rfl | rfl | rfl | rfl | rfl | rfl
  · exact h.a
  · exact h.b
  · exact h.c
  · exact h.d
  · exact h.e
  · exact h.f
  · exact h.g
  · exact h.h
theorem pad_src {w : World} {gp g n z : Nat} (h : IRow w gp 5 .u8 (padI n z 8)) (hz : z = (119 - n % 64) % 64) (hne : g ≠ gp) : Src w g (.slice (some ⟨gp, 0, none⟩) (z + 9) (z + 9)) (padB n) := by
  have e : padI n z 8 = nums (padB n) := by rw [hz]; exact padI_full n
  have hl : (padB n).length = z + 9 := by rw [← nums_length, ← e, padI_length]
  rw [e] at h
  refine ⟨_, z + 9, by rw [hl], by omega, by unfold maxLen; omega, (by intro h; cases h), fun _ => ⟨gp, 0, rfl, h.lt, Ne.symm hne, fun j u hu => ?_⟩⟩
  rw [Nat.zero_add]
  have := h.cell (i := j) (z := (u.toNat : Int)) (by unfold nums; rw [List.getElem?_map, hu]; rfl)
  exact this
set_option maxRecDepth 100000 in
set_option maxHeartbeats 6400000 in
theorem sumHash_any (g : Nat) (t : TypeId) (m : List UInt8) (W0 : World) (hsum : SumIs W0 g t m) (hm : m.length < 576460752303423488) (hroots : Roots W0) :
    Calls Tryd.prog 23 #[.pointer (some ⟨g, 0, none⟩)] W0 fun e w' => e = .returned (digV (sha256 m)) ∧ Below W0.heap.size W0 w' := by
  obtain ⟨ws, rest, ht, hws, hrow⟩ := hsum
  have HT := Lib.hid ht
  have HWS := Lib.hid hws
  have hg := hrow.lt
  have HROW := Lib.hid hrow
  have HROOTS := Lib.hid hroots
  clear ht hws hrow hroots
  go_enter Tryd.func23, Tryd.ntmps23
  go_upto_region 1 with fail
  change Code.wp _ _ _ _ (W0.alloc (.cells ((List.replicate 32 (0 : Int)).map (Value.int .u8)).toArray 28))
  have rA := IRow.new W0 28 .u8 (List.replicate 32 0)
  have bA : Below W0.heap.size W0 (W0.alloc (.cells ((List.replicate 32 (0 : Int)).map (Value.int .u8)).toArray 28)) := (Below.refl _ W0).alloc (Nat.le_refl _) _
  have sA : (W0.alloc (.cells ((List.replicate 32 (0 : Int)).map (Value.int .u8)).toArray 28)).heap.size = W0.heap.size + 1 := by simp
  obtain ⟨wA, hwA⟩ : ∃ x, x = W0.alloc (.cells ((List.replicate 32 (0 : Int)).map (Value.int .u8)).toArray 28) := ⟨_, rfl⟩
  rw [← hwA] at rA bA sA ⊢
  obtain ⟨B0, hB0⟩ : ∃ B0, B0 = W0.heap.size := ⟨_, rfl⟩
  rw [← hB0] at rA bA sA hg ⊢
  have hgr := HROW.out.below (hB0 ▸ bA) HROW.out.lt
  have rZ := VRow.new wA 44 zIn
  have bB : Below wA.heap.size wA ((wA.alloc (.cells zIn.toArray 44)).setRow wA.heap.size (inRow ws rest m.length).toArray) := by
    exact below_setRow ((Below.refl _ wA).alloc (Nat.le_refl _) _) (Nat.le_refl _) _
  have rB := rZ.setRow (inRow ws rest m.length)
  have HI := Lib.hid (show (Tryd.prog.info? 44).map (·.size) = some (inRow ws rest m.length).length by rw [inRow_length _ HWS.out HT.out.size]; exact info_in)
  have HL := Lib.hid (show zIn.length = (inRow ws rest m.length).length by rw [inRow_length _ HWS.out HT.out.size]; rfl)
  have HO := Lib.hid (inRow_one ws rest m.length)
  obtain ⟨L, hL⟩ : ∃ L, L = inRow ws rest m.length := ⟨_, rfl⟩
  rw [← hL] at hgr rB bB HI HL HO
  have HGR := Lib.hid hgr
  have RZ := Lib.hid rZ
  have RB := Lib.hid rB
  have BB := Lib.hid bB
  have RA := Lib.hid rA
  have BA := Lib.hid bA
  have SA := Lib.hid sA
  have HB0 := Lib.hid hB0
  have HLL := Lib.hid hL
  clear hgr rZ rB bB rA bA sA hB0 hL hwA
  have hzv := zero_in
  go_upto_region 2 with (first
    | (refine wpList_load_vrow rfl 44 (.tmp 9) rfl (g := g) (t := t) (vs := L) rfl HGR.out Tryd.underlying44 HI.out ?_)
    | (refine wpList_store_vrow rfl 44 (.tmp 3) (.tmp 10) rfl (g := wA.heap.size) (t := 44) (vs := zIn) (us := L) rfl rfl RZ.out HI.out HL.out HO.out ?_))
  change Code.wp _ _ _ _ ((wA.alloc (.cells zIn.toArray 44)).setRow wA.heap.size L.toArray)
  obtain ⟨wB, hwB⟩ : ∃ x, x = (wA.alloc (.cells zIn.toArray 44)).setRow wA.heap.size L.toArray := ⟨_, rfl⟩
  have rB : VRow wB wA.heap.size 44 L := by rw [hwB]; exact RB.out
  have bB : Below wA.heap.size wA wB := by rw [hwB]; exact BB.out
  rw [← hwB]
  obtain ⟨B1, hB1⟩ : ∃ B1, B1 = wA.heap.size := ⟨_, rfl⟩
  rw [← hB1] at rB bB ⊢
  have h10 : B1 = B0 + 1 := by rw [hB1, SA.out]
  have rA := RA.out.below bB (by omega)
  have bA := BA.out.trans (bB.mono (by omega : B0 ≤ B1))
  have hB1s := rB.lt
  have ro : Roots wB := HROOTS.out.below (by rw [← HB0.out]; exact bA)
  have zc : wB.cell? ⟨B1, 136, none⟩ = some (.int .u64 (m.length : Int)) := by
    refine rB.cell ?_
    rw [HLL.out]
    exact inRow_size _ HWS.out HT.out.size
  have rB' : VRow wB B1 44 (inRow ws rest m.length) := by rw [← HLL.out]; exact rB
  obtain ⟨z, hz⟩ : ∃ z, z = (119 - m.length % 64) % 64 := ⟨_, rfl⟩
  obtain ⟨n, hn⟩ : ∃ n, n = m.length := ⟨_, rfl⟩
  rw [← hn] at zc hz
  have hpl : (padB n).length = z + 9 := by
    have h := padI_length n z 8
    rw [hz, padI_full, nums_length] at h
    rw [h, hz]
  have RB2 := Lib.hid rB'
  have RA2 := Lib.hid rA
  have BA2 := Lib.hid bA
  have RO := Lib.hid ro
  have HZ := Lib.hid hz
  have HN := Lib.hid hn
  have HPL := Lib.hid hpl
  have H10 := Lib.hid h10
  clear hwB rB rB' bB rA bA ro hz hn hpl HGR RZ RB BB RA BA HI HL HO HLL HROW hB1 h10 SA
  dsimp only [Act.put]
  go_cut [2, 3] (fun s2 s3 wx => s2 = .pointer (some ⟨B0, 0, none⟩) ∧ s3 = .pointer (some ⟨B1, 0, none⟩) ∧ SumIs wx B1 44 (full m) ∧ IRow wx B0 28 .u8 (List.replicate 32 0) ∧ Below B0 W0 wx ∧ B1 < wx.heap.size)
  case first =>
    refine wp_region_held_drew (S := AnyW) (by kernel_rfl) ?_ (fun hHeld => ?_)
    · exact anyW _
    refine wpAnyH_take (i := 1) (oi := { dst := some 12, op := Go.Op.fieldAddr 44 (Go.Operand.tmp 3) 2, type := 0, pos := "sha256.go:21", after := #[], guard := none }) (v := ?av1) rfl (by kernel_rfl) (by kernel_rfl) (by kernel_rfl) (fun _ _ _ h => h) (Or.inl ⟨by rfl, ?ay1⟩) (by assumption) ?ar1
    case ay1 => (intro w hSw; (try dsimp only at hSw); go_simp; try (with_reducible rfl))
    case ar1 =>
    try simp only [Act.put, List.setIfInBounds_toArray, List.set_cons_zero, List.set_cons_succ]
    refine wpAnyH_ready (rs := [0, 2]) (by kernel_rfl) (by simp) ?_
    refine AllReadyH.cons (o := { dst := some 11, op := Go.Op.call { callee := Go.Callee.value (Go.Operand.func 37), args := #[], argTypes := #[] }, type := 76, pos := "sha256.go:21", after := #[], guard := none }) rfl (fun K hK => ?_) (AllReadyH.cons (o := { dst := some 13, op := Go.Op.load 42 (Go.Operand.tmp 12), type := 42, pos := "sha256.go:21", after := #[{ on := 1, ground := Go.Ground.data }], guard := none }) rfl (fun K hK => ?_) (AllReadyH.nil))
    · as_aux_lemma =>
      go_simp
      refine (kind256_any wB.drew RO.out.root).mono ?_
      rintro e w2 ⟨rfl, hb2⟩
      go_simp
      have B2 := Lib.hid (show Below wB.heap.size wB w2 from ⟨hb2.os, hb2.tape, hb2.output, hb2.size, hb2.block⟩)
      have zc2 : w2.cell? ⟨B1, 136, none⟩ = some (.int .u64 (n : Int)) := (B2.out.cell (p := ⟨B1, 136, none⟩) hB1s).trans zc
      clear hb2
      refine hK.out _ _ ?_ (fun hHeld => ?_)
      · exact anyW _
      clear hK K
      try simp only [Act.put, List.setIfInBounds_toArray, List.set_cons_zero, List.set_cons_succ]
      refine wpAnyH_ready (rs := [2]) (by kernel_rfl) (by simp) ?_
      refine AllReadyH.cons (o := { dst := some 13, op := Go.Op.load 42 (Go.Operand.tmp 12), type := 42, pos := "sha256.go:21", after := #[{ on := 1, ground := Go.Ground.data }], guard := none }) rfl (fun K hK => ?_) (AllReadyH.nil)
      go_simp
      refine hK.out _ _ ?_ (fun hHeld => ?_)
      · exact anyW _
      clear hK K
      try simp only [Act.put, List.setIfInBounds_toArray, List.set_cons_zero, List.set_cons_succ]
      refine wpAnyH_ready (rs := [3]) (by kernel_rfl) (by simp) ?_
      refine AllReadyH.cons (o := { dst := some 14, op := Go.Op.call { callee := Go.Callee.value (Go.Operand.func 30), args := #[Go.Operand.tmp 13, Go.Operand.const (Go.Value.int Go.IntKind.i64 64), Go.Operand.const (Go.Value.int Go.IntKind.i64 8)], argTypes := #[42, 3, 3] }, type := 22, pos := "sha256.go:21", after := #[{ on := 2, ground := Go.Ground.data }, { on := 0, ground := Go.Ground.chain }], guard := none }) rfl (fun K hK => ?_) (AllReadyH.nil)
      go_simp
      refine (padding_any n z w2 (by have := HN.out; omega) HZ.out).mono ?_
      rintro e w3 ⟨gp, rfl, hrow3, hb3, hge⟩
      go_simp
      have BQ := Lib.hid (B2.out.trans (hb3.mono B2.out.size))
      have PROW := Lib.hid hrow3
      have GE := Lib.hid (Nat.le_trans B2.out.size hge)
      clear hb3 hrow3 hge
      refine hK.out _ _ ?_ (fun hHeld => ?_)
      · exact anyW _
      clear hK K
      try simp only [Act.put, List.setIfInBounds_toArray, List.set_cons_zero, List.set_cons_succ]
      refine wpAnyH_ready (rs := [4]) (by kernel_rfl) (by simp) ?_
      refine AllReadyH.cons (o := { dst := some 15, op := Go.Op.call { callee := Go.Callee.value (Go.Operand.func 36), args := #[Go.Operand.tmp 3, Go.Operand.tmp 11, Go.Operand.tmp 14], argTypes := #[44, 76, 22] }, type := 0, pos := "sha256.go:21", after := #[{ on := 0, ground := Go.Ground.data }, { on := 3, ground := Go.Ground.data }, { on := 3, ground := Go.Ground.chain }], guard := none }) rfl (fun K hK => ?_) (AllReadyH.nil)
      go_simp
      have SRC := pad_src PROW.out HZ.out (show B1 ≠ gp by have := GE.out; omega)
      refine (add_any B1 _ m (padB n) ws rest _ w3 HT.out HWS.out (RB2.out.below BQ.out hB1s) SRC (by rw [HPL.out]; have := HZ.out; omega) (RO.out.below BQ.out).cube (HROOTS.out.off (by rw [← HB0.out]; have := H10.out; omega)).cube).mono ?_
      rintro e w4 ⟨rfl, ws4, rest4, t4, l4, r4, tt4⟩
      go_simp
      refine hK.out _ _ ?_ (fun hHeld => ?_)
      · exact anyW _
      clear hK K
      try simp only [Act.put, List.setIfInBounds_toArray, List.set_cons_zero, List.set_cons_succ]
      refine wpAnyH_done (by kernel_rfl) ?_ _
      have hsum : SumIs w4 B1 44 (full m) := ⟨ws4, rest4, by unfold full; rw [← HN.out]; exact t4, l4, by unfold full; rw [← HN.out]; exact r4⟩
      have htt : Turns (· = B1) wB w4 := (Turns.of_below (S := (· = B1)) BQ.out).trans tt4 (fun _ _ h => h)
      have hra : IRow w4 B0 28 .u8 (List.replicate 32 0) := RA2.out.turns htt (by have := H10.out; omega)
      have hb0 : Below B0 W0 w4 := BA2.out.trans (htt.below_of (by have := H10.out; omega) (by intro i hi h; have := H10.out; omega))
      have hlt : B1 < w4.heap.size := Nat.lt_of_lt_of_le hB1s htt.size
      have HF := Lib.hid (⟨hsum, hra, hb0, hlt⟩ : SumIs w4 B1 44 (full m) ∧ IRow w4 B0 28 .u8 (List.replicate 32 0) ∧ Below B0 W0 w4 ∧ B1 < w4.heap.size)
      clear hsum htt hra hb0 hlt t4 l4 r4 tt4
      go_wp2_with fail
      go_meet
      exact ⟨rfl, rfl, HF.out⟩
    · as_aux_lemma =>
      go_simp
      refine hK.out _ _ ?_ (fun hHeld => ?_)
      · exact anyW _
      clear hK K
      try simp only [Act.put, List.setIfInBounds_toArray, List.set_cons_zero, List.set_cons_succ]
      refine wpAnyH_ready (rs := [0]) (by kernel_rfl) (by simp) ?_
      refine AllReadyH.cons (o := { dst := some 11, op := Go.Op.call { callee := Go.Callee.value (Go.Operand.func 37), args := #[], argTypes := #[] }, type := 76, pos := "sha256.go:21", after := #[], guard := none }) rfl (fun K hK => ?_) (AllReadyH.nil)
      go_simp
      refine (kind256_any wB.drew RO.out.root).mono ?_
      rintro e w2 ⟨rfl, hb2⟩
      go_simp
      have B2 := Lib.hid (show Below wB.heap.size wB w2 from ⟨hb2.os, hb2.tape, hb2.output, hb2.size, hb2.block⟩)
      clear hb2
      refine hK.out _ _ ?_ (fun hHeld => ?_)
      · exact anyW _
      clear hK K
      try simp only [Act.put, List.setIfInBounds_toArray, List.set_cons_zero, List.set_cons_succ]
      refine wpAnyH_ready (rs := [3]) (by kernel_rfl) (by simp) ?_
      refine AllReadyH.cons (o := { dst := some 14, op := Go.Op.call { callee := Go.Callee.value (Go.Operand.func 30), args := #[Go.Operand.tmp 13, Go.Operand.const (Go.Value.int Go.IntKind.i64 64), Go.Operand.const (Go.Value.int Go.IntKind.i64 8)], argTypes := #[42, 3, 3] }, type := 22, pos := "sha256.go:21", after := #[{ on := 2, ground := Go.Ground.data }, { on := 0, ground := Go.Ground.chain }], guard := none }) rfl (fun K hK => ?_) (AllReadyH.nil)
      go_simp
      refine (padding_any n z w2 (by have := HN.out; omega) HZ.out).mono ?_
      rintro e w3 ⟨gp, rfl, hrow3, hb3, hge⟩
      go_simp
      have BQ := Lib.hid (B2.out.trans (hb3.mono B2.out.size))
      have PROW := Lib.hid hrow3
      have GE := Lib.hid (Nat.le_trans B2.out.size hge)
      clear hb3 hrow3 hge
      refine hK.out _ _ ?_ (fun hHeld => ?_)
      · exact anyW _
      clear hK K
      try simp only [Act.put, List.setIfInBounds_toArray, List.set_cons_zero, List.set_cons_succ]
      refine wpAnyH_ready (rs := [4]) (by kernel_rfl) (by simp) ?_
      refine AllReadyH.cons (o := { dst := some 15, op := Go.Op.call { callee := Go.Callee.value (Go.Operand.func 36), args := #[Go.Operand.tmp 3, Go.Operand.tmp 11, Go.Operand.tmp 14], argTypes := #[44, 76, 22] }, type := 0, pos := "sha256.go:21", after := #[{ on := 0, ground := Go.Ground.data }, { on := 3, ground := Go.Ground.data }, { on := 3, ground := Go.Ground.chain }], guard := none }) rfl (fun K hK => ?_) (AllReadyH.nil)
      go_simp
      have SRC := pad_src PROW.out HZ.out (show B1 ≠ gp by have := GE.out; omega)
      refine (add_any B1 _ m (padB n) ws rest _ w3 HT.out HWS.out (RB2.out.below BQ.out hB1s) SRC (by rw [HPL.out]; have := HZ.out; omega) (RO.out.below BQ.out).cube (HROOTS.out.off (by rw [← HB0.out]; have := H10.out; omega)).cube).mono ?_
      rintro e w4 ⟨rfl, ws4, rest4, t4, l4, r4, tt4⟩
      go_simp
      refine hK.out _ _ ?_ (fun hHeld => ?_)
      · exact anyW _
      clear hK K
      try simp only [Act.put, List.setIfInBounds_toArray, List.set_cons_zero, List.set_cons_succ]
      refine wpAnyH_done (by kernel_rfl) ?_ _
      have hsum : SumIs w4 B1 44 (full m) := ⟨ws4, rest4, by unfold full; rw [← HN.out]; exact t4, l4, by unfold full; rw [← HN.out]; exact r4⟩
      have htt : Turns (· = B1) wB w4 := (Turns.of_below (S := (· = B1)) BQ.out).trans tt4 (fun _ _ h => h)
      have hra : IRow w4 B0 28 .u8 (List.replicate 32 0) := RA2.out.turns htt (by have := H10.out; omega)
      have hb0 : Below B0 W0 w4 := BA2.out.trans (htt.below_of (by have := H10.out; omega) (by intro i hi h; have := H10.out; omega))
      have hlt : B1 < w4.heap.size := Nat.lt_of_lt_of_le hB1s htt.size
      have HF := Lib.hid (⟨hsum, hra, hb0, hlt⟩ : SumIs w4 B1 44 (full m) ∧ IRow w4 B0 28 .u8 (List.replicate 32 0) ∧ Below B0 W0 w4 ∧ B1 < w4.heap.size)
      clear hsum htt hra hb0 hlt t4 l4 r4 tt4
      go_wp2_with fail
      go_meet
      exact ⟨rfl, rfl, HF.out⟩
  case rest =>
    obtain ⟨rfl, rfl, ⟨ws4, rest4, t4, l4, r4⟩, rA4, bA4, hlt4⟩ := hcut
    have hfull : full m ≠ [] := by unfold full padB; simp
    have hw4 := t4.words hfull
    obtain ⟨s, hs⟩ : ∃ s, s = blocks256 (full m) ((full m).length / 64) := ⟨_, rfl⟩
    have hsha : sha256 m = outB s.list := by rw [hs]; rfl
    have hok : s.Ok := by rw [hs]; exact blocks256_ok _ _
    rw [← hs] at hw4
    subst hw4
    have rC := IRow.new wc 28 .u8 (List.replicate 32 0)
    have bC : Below wc.heap.size wc (wc.alloc (.cells ((List.replicate 32 (0 : Int)).map (Value.int .u8)).toArray 28)) := (Below.refl _ wc).alloc (Nat.le_refl _) _
    have rA5 := rA4.below bC rA4.lt
    have bA5 := bA4.trans (bC.mono bA4.size |>.mono (by have := HB0.out; omega))
    have r5 := r4.below bC r4.lt
    have RA5 := Lib.hid rA5
    have BA5 := Lib.hid bA5
    have RC := Lib.hid rC
    have HRA := Lib.hid (show (wc.alloc (.cells ((List.replicate 32 (0 : Int)).map (Value.int .u8)).toArray 28)).rangeAt B1 0 [.int .u32 s.a, .int .u32 s.b, .int .u32 s.c, .int .u32 s.d, .int .u32 s.e, .int .u32 s.f, .int .u32 s.g, .int .u32 s.h] from r5.range (by
      intro j x hx
      rw [Nat.zero_add]
      have hx2 : (s.list.map (Value.int .u32))[j]? = some x := hx
      rw [List.getElem?_map] at hx2
      cases hy : s.list[j]? with
      | none => rw [hy] at hx2; exact absurd hx2 (by simp)
      | some y =>
        rw [hy] at hx2
        obtain rfl : Value.int .u32 y = x := Option.some.inj hx2
        exact inRow_word _ hy))
    have HSHA := Lib.hid hsha
    have HOK := Lib.hid hok
    obtain ⟨B2, hB2⟩ : ∃ B2, B2 = wc.heap.size := ⟨_, rfl⟩
    have h20 : B0 < B2 := by have := rA4.lt; omega
    have HB2 := Lib.hid hB2
    clear t4 l4 r4 rA4 bA4 hfull hs hsha hok rC bC rA5 bA5 r5 hB2
    go_wp2_with (refine wpList_load_mid rfl 40 (.tmp 16) rfl B1 0 rfl [.int .u32 s.a, .int .u32 s.b, .int .u32 s.c, .int .u32 s.d, .int .u32 s.e, .int .u32 s.f, .int .u32 s.g, .int .u32 s.h] _ HRA.out Tryd.underlying40 rfl info_8 ?_)
    rw [← HB2.out] at RC ⊢
    go_loopw [18] (fun j wr => ∃ i : Nat, i ≤ 8 ∧ j = .int .i64 i ∧ IRow wr B2 28 .u8 (padZ 32 (nums (outB (s.list.take i)))) ∧ IRow wr B0 28 .u8 (List.replicate 32 0) ∧ Below B0 W0 wr) (fun j _ => 8 - (intOf j).toNat)
    case atStart => exact ⟨0, by omega, rfl, RC.out, RA5.out, BA5.out⟩
    case round =>
      obtain ⟨i, hi, rfl, hrow, hres, hbel⟩ := hrel
      by_cases h8 : i < 8
      · obtain ⟨x, hx, hix⟩ := idx8 s.a s.b s.c s.d s.e s.f s.g s.h h8
        obtain ⟨p, hp⟩ : ∃ p, p = 4 * i := ⟨_, rfl⟩
        have ep : 4 * (i : Int) = (p : Int) := by omega
        have hp28 : p ≤ 28 := by omega
        have i1 : (p : Int) ≤ 32 := by omega
        have i2 : ¬ 32 = p := by omega
        have b8 : (i : Int) < 8 := by omega
        have htl : (s.list.take i).length = i := by rw [List.length_take]; have : s.list.length = 8 := rfl; omega
        have hol : (nums (outB (s.list.take i))).length = 4 * i := by rw [nums_length, outB_length, htl]
        have C := Lib.hid (put32_any B2 p (32 - p) (32 - p) _ _ x wr hrow (by omega) (by rw [padZ_length (by omega)]; omega))
        have hxu : U32 x := S8.mem_ok HOK.out (List.mem_of_getElem? hx)
        have hnext := put4_next (m := 32) (ws := s.list.take i) (x := x) hxu (by rw [outB_length, htl]; omega)
        rw [htl, ← hp] at hnext
        have htk : s.list.take i ++ [x] = s.list.take (i + 1) := by
          rw [List.take_add_one]
          have : s.list[i]? = some x := hx
          rw [this]
          rfl
        rw [htk] at hnext
        have HNEXT := Lib.hid hnext
        have HRES := Lib.hid hres
        have HBEL := Lib.hid hbel
        clear hx hp htl hol hnext htk hrow hres hbel
        go_wp2_with fail
        refine C.out.mono ?_
        rintro e w5 ⟨rfl, hr5, hb5⟩
        rw [HNEXT.out] at hr5
        have R5 := Lib.hid hr5
        have Q5 := Lib.hid (hb5 B2 (Nat.le_refl _))
        clear hr5 hb5
        go_wp2_with fail
        exact ⟨⟨i + 1, by omega, by go_num, R5.out, HRES.out.below Q5.out h20, HBEL.out.trans (Q5.out.mono (by omega))⟩, by simp [intOf]; omega⟩
      · obtain rfl : i = 8 := by omega
        have h8' : ((8 : Nat) : Int) = 8 := rfl
        rw [h8']
        have e8 : padZ 32 (nums (outB (s.list.take 8))) = nums (sha256 m) := by
          have e : s.list.take 8 = s.list := rfl
          rw [e, ← HSHA.out]
          exact padZ_full (by rw [nums_length, sha256_length])
        rw [e8] at hrow
        have hsz : (nums (sha256 m)).length = 32 := by rw [nums_length, sha256_length]
        have HI := Lib.hid (show (Tryd.prog.info? 28).map (·.size) = some (nums (sha256 m)).length by rw [hsz]; exact info_h)
        have HL := Lib.hid (show (List.replicate 32 (0 : Int)).length = (nums (sha256 m)).length by rw [hsz]; rfl)
        have HRW := Lib.hid hrow
        have HRS := Lib.hid hres
        have HFIN := Lib.hid (setRow_irow (ys := nums (sha256 m)) hres)
        have HBF := Lib.hid (below_setRow hbel (Nat.le_refl _) ((nums (sha256 m)).map (Value.int .u8)).toArray)
        clear h8' e8 hrow hres hbel hi h8 hsz
        go_wp2_with (first
          | (refine wpList_load_irow rfl 28 (.tmp 4) rfl (g := B2) (t := 28) (k := .u8) (xs := nums (sha256 m)) rfl HRW.out Tryd.underlying28 HI.out ?_)
          | (refine wpList_store_irow rfl 28 (.tmp 2) (.tmp 28) rfl (g := B0) (t := 28) (k := .u8) (xs := List.replicate 32 0) (ys := nums (sha256 m)) rfl rfl HRS.out HI.out HL.out ?_))
        refine bodyPost_ret (v := digV (sha256 m)) ?_ rfl ⟨rfl, by rw [← HB0.out]; exact HBF.out⟩
        obtain ⟨fr, hrw⟩ : ∃ fr, ((wr.setRow B0 ((nums (sha256 m)).map (Value.int .u8)).toArray)).heap[B0]? = some (.cells ((nums (sha256 m)).map (Value.int .u8)).toArray 28 fr) := ⟨_, HFIN.out⟩
        exact results_cell_row Tryd.results23 _ _ B0 28 ((nums (sha256 m)).map (Value.int .u8)).toArray fr _ rfl hrw Tryd.underlying28 rfl (by rw [List.size_toArray, List.length_map]; exact HI.out)
end Go.Proofs.YtpcopimbnbmkmaaDoor
