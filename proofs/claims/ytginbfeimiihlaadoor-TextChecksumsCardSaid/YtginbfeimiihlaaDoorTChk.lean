/-
  The law on checksums of descriptors. Conditions: the listed table holds what its text lays.
-/
import Derived.Test.YtginbfeimiihlaaDoorRefChk
import Derived.Test.YtginbfeimiihlaaDoorB58
namespace Go.Proofs.YtginbfeimiihlaaDoor
open Go.RowKit

theorem l32_back : ∀ v : Fin 32, (posB l32 (l32.data.toList.getD v.val 0)).toNat = v.val := by decide +kernel
theorem sumLetters_back (c : Nat) : (sumLetters c).map (fun b => (posB l32 b).toNat) = eightOf c := by
  unfold sumLetters
  rw [List.map_map]
  have : ∀ v ∈ eightOf c, ((fun b => (posB l32 b).toNat) ∘ fun v => l32.data.toList.getD v 0) v = v := by
    intro v hv
    unfold eightOf at hv
    obtain ⟨i, _, rfl⟩ := List.mem_map.1 hv
    exact l32_back ⟨_, Nat.mod_lt _ (by omega)⟩
  conv => rhs; rw [← List.map_id (eightOf c)]
  exact List.map_congr_left this
theorem sumLetters_inj {c d : Nat} (hc : c < 1099511627776) (hd : d < 1099511627776) (h : sumLetters c = sumLetters d) : c = d := by
  refine eightOf_inj hc hd ?_
  rw [← sumLetters_back c, ← sumLetters_back d, h]
theorem posB_inj {al : ByteArray} {a b : UInt8} (ha : 0 ≤ posB al a) (hb : posB al a = posB al b) : a = b := by
  obtain ⟨o, ho⟩ : ∃ o : Nat, posB al a = o := ⟨(posB al a).toNat, by omega⟩
  have h1 := (Lib.indexByte_some (l := al.data.toList) (c := a) (by exact ho)).1
  have h2 := (Lib.indexByte_some (l := al.data.toList) (c := b) (by exact hb ▸ ho)).1
  rw [h1] at h2
  injection h2
/-- One byte that is another one makes another text, or none. -/
theorem sum_apart {cs : List UInt8} {k : Nat} {a c : UInt8} (hk : cs[k]? = some a) (hne : a ≠ c) (h1 : ∀ d ∈ cs, 0 ≤ posB inB d) (h2 : ∀ d ∈ cs.take k ++ c :: cs.drop (k + 1), 0 ≤ posB inB d) :
    sumLetters (chkN (natsOf (placesB inB (cs.take k ++ c :: cs.drop (k + 1))))) ≠ sumLetters (chkN (natsOf (placesB inB cs))) := by
  have hlt := (List.getElem?_eq_some_iff.1 hk).1
  have hcs : cs = cs.take k ++ a :: cs.drop (k + 1) := by
    have h := List.getElem?_eq_some_iff.1 hk
    conv => lhs; rw [← List.take_append_drop k cs, List.drop_eq_getElem_cons hlt, h.2]
  have key : ∀ d, natsOf (placesB inB (cs.take k ++ d :: cs.drop (k + 1))) = natsOf (placesB inB (cs.take k)) ++ (b8 (posB inB d)).toNat :: natsOf (placesB inB (cs.drop (k + 1))) := by
    intro d; simp [natsOf, placesB]
  have hA := inB_places h1
  have hB := inB_places h2
  rw [hcs, key] at hA
  rw [key] at hB
  have ha := h1 a (List.mem_of_getElem? hk)
  have hc := h2 c (List.mem_append_right _ List.mem_cons_self)
  have ra := posB_range inB a
  have rc := posB_range inB c
  have h95 : (inB.size : Int) = 95 := by decide
  rw [h95] at ra rc
  have hpq : (b8 (posB inB c)).toNat ≠ (b8 (posB inB a)).toNat := by
    have e1 := b8_toNat (posB inB c)
    have e2 := b8_toNat (posB inB a)
    intro h
    exact hne (posB_inj ha (by omega))
  have hap := chkN_apart (natsOf (placesB inB (cs.take k))) (natsOf (placesB inB (cs.drop (k + 1)))) _ _
    (fun x hx => hA x (List.mem_append_left _ hx)) (fun x hx => hA x (List.mem_append_right _ (List.mem_cons_of_mem _ hx)))
    (hB _ (List.mem_append_right _ List.mem_cons_self)) (hA _ (List.mem_append_right _ List.mem_cons_self)) hpq
  intro h
  have h' := sumLetters_inj (chkN_lt _) (chkN_lt _) h
  have e3 : natsOf (placesB inB cs) = natsOf (placesB inB (cs.take k)) ++ (b8 (posB inB a)).toNat :: natsOf (placesB inB (cs.drop (k + 1))) := by
    conv => lhs; rw [hcs]
    exact key a
  rw [key, e3] at h'
  exact hap h'

theorem str_ne {a b : List UInt8} (h : a ≠ b) : ((⟨a.toArray⟩ : ByteArray).toList == (⟨b.toArray⟩ : ByteArray).toList) = false := by
  rw [ByteArray.toList_eq, ByteArray.toList_eq]
  simpa using h
theorem chk_form (T : ByteArray) (W : World) (hl : T.size ≤ 2000) (hcode : CodeIs W) :
    Calls Tryd.prog 17 #[.string T] W fun e w' => ∃ (X : ByteArray) (n : Int), e = .returned (.tuple #[.string X, .int .i64 n]) ∧
      Hid ((∀ c ∈ T.data.toList, 0 ≤ posB inB c) ∧ n = 0 ∧ X = ⟨(sumLetters (chkN (natsOf (placesB inB T.data.toList)))).toArray⟩ ∨ n = 3) ∧ Below W.heap.size W w' :=
  (checksum_any T W hl hcode).mono fun e w' h => by
    obtain ⟨hb, ⟨hg, rfl⟩ | ⟨_, rfl⟩⟩ := h
    · exact ⟨_, _, rfl, Lib.hid (.inl ⟨hg, rfl, rfl⟩), hb⟩
    · exact ⟨_, _, rfl, Lib.hid (.inr rfl), hb⟩
theorem join_bytes (s : ByteArray) (k : Nat) (c : UInt8) : (s.extract 0 k ++ ⟨#[c]⟩ ++ s.extract (k + 1) s.size).data.toList = s.data.toList.take k ++ c :: s.data.toList.drop (k + 1) := by
  have h1 : (s.extract 0 k).data.toList = s.data.toList.take k := by simp
  have h2 : (s.extract (k + 1) s.size).data.toList = s.data.toList.drop (k + 1) := by
    simp
    exact List.take_of_length_le (by simp)
  have h3 : (s.extract 0 k ++ ⟨#[c]⟩ ++ s.extract (k + 1) s.size).data.toList = (s.extract 0 k).data.toList ++ [c] ++ (s.extract (k + 1) s.size).data.toList := by simp
  rw [h3, h1, h2]
  simp
theorem one_str9 (W : World) (q : UInt8) :
    (convert 22 9 (.slice (some ⟨W.heap.size, 0, none⟩) 1 1)).run Tryd.prog (W.alloc (.cells #[.int .u8 (q.toNat : Int)] 5)).drew = .ok (.string ⟨#[q]⟩) (W.alloc (.cells #[.int .u8 (q.toNat : Int)] 5)).drew :=
  run_string_of (P := Tryd.prog) _ 22 9 5 Tryd.underlying22 Tryd.underlying5 Tryd.underlying9 _ _ _ ((Byt.made W 5 _ [q] rfl (by unfold maxLen; simp)).keep (fun _ _ _ => rfl))

set_option maxRecDepth 100000 in
set_option maxHeartbeats 3200000 in
theorem chk_law (s : ByteArray) (at_ : Int) (c : UInt8) (w : World) (hc : CodeIs w) (hs : s.size ≤ 140737488355328) :
    Calls Tryd.prog 5 #[.string s, .int .i64 at_, .int .u8 (c.toNat : Int)] w fun e w' => e = .returned (.bool true) ∧ Below w.heap.size w w' := by
  have HC := Lib.hid hc
  have HA := Lib.hid (awake_any w hc)
  clear hc
  go_enter Tryd.func5, Tryd.ntmps5
  go_wp2_with fail
  refine HA.out.mono ?_
  rintro e w1 ⟨rfl, hb1⟩
  have hs1 := hb1.size
  go_upto_if 16 with fail
  go_cut [0] (fun v wx => ∃ s' : ByteArray, v = .string s' ∧ s'.size ≤ 400 ∧ w1 = wx)
  case first =>
    by_cases h : 400 < s.size
    · have hd : decide ((400 : Int) < (s.size : Int)) = true := decide_eq_true (by omega)
      go_wp2
      go_meet
      refine ⟨_, rfl, ?_, rfl⟩
      simp [ByteArray.size_extract]
      omega
    · have hd : decide ((400 : Int) < (s.size : Int)) = false := decide_eq_false (by omega)
      go_wp2
      go_meet
      exact ⟨s, rfl, by omega, rfl⟩
  case rest =>
    obtain ⟨s', rfl, hs', hwc⟩ := hcut
    subst hwc
    have hC1 := HC.out.below hb1 HC.out.1
    have K1 := Lib.hid (checksum_any s' w1 (by omega) hC1)
    have HC1 := Lib.hid hC1
    clear hC1
    go_wp2_with fail
    refine K1.out.mono ?_
    rintro e w2 ⟨hb2, hpost2⟩
    have hs2 := hb2.size
    have K2 := Lib.hid (refChk_any s' w2 (by omega))
    have HC2 := Lib.hid (HC1.out.below hb2 HC1.out.1)
    have HB2 := Lib.hid (hb1.trans (hb2.mono hs1))
    rcases hpost2 with ⟨hgood, rfl⟩ | ⟨hbad, rfl⟩
    rotate_left
    · have HBAD := Lib.hid hbad
      clear hbad
      go_wp2_with fail
      refine K2.out.mono ?_
      rintro e w3 ⟨hb3, ⟨hgood, _⟩ | ⟨_, rfl⟩⟩
      · obtain ⟨c0, hc0, hn0⟩ := HBAD.out
        have := hgood c0 hc0
        omega
      go_wp2
      go_ret
      exact ⟨rfl, HB2.out.trans (hb3.mono (by have := HB2.out.size; omega))⟩
    · have HG := Lib.hid hgood
      obtain ⟨X, hX⟩ : ∃ X : ByteArray, X = ⟨(sumLetters (chkN (natsOf (placesB inB s'.data.toList)))).toArray⟩ := ⟨_, rfl⟩
      rw [← hX]
      have HX := Lib.hid hX
      clear hgood hX
      go_wp2_with fail
      refine K2.out.mono ?_
      rintro e w3 ⟨hb3, ⟨_, rfl⟩ | ⟨⟨c0, hc0, hn0⟩, _⟩⟩
      rotate_left
      · have := HG.out c0 hc0
        omega
      rw [← HX.out]
      have HB3 := Lib.hid (HB2.out.trans (hb3.mono (by have := HB2.out.size; omega)))
      have HC3 := Lib.hid (HC2.out.below hb3 HC2.out.1)
      clear hb3
      by_cases h0 : at_ < 0
      · have hd0 : decide (at_ < 0) = true := decide_eq_true h0
        go_wp2
        go_ret
        exact ⟨rfl, HB3.out⟩
      · have hd0 : decide (at_ < 0) = false := decide_eq_false h0
        by_cases h1 : (s'.size : Int) ≤ at_
        · have hd1 : decide ((s'.size : Int) ≤ at_) = true := decide_eq_true h1
          go_wp2
          go_ret
          exact ⟨rfl, HB3.out⟩
        · have hd1 : decide ((s'.size : Int) ≤ at_) = false := decide_eq_false h1
          obtain ⟨k, rfl⟩ : ∃ k : Nat, at_ = k := ⟨at_.toNat, by omega⟩
          have hk : k < s'.size := by omega
          have hget := Lib.data_getElem? s' k hk
          by_cases heq : s'[k]'hk = c
          · have hd2 : (((s'[k]'hk).toNat : Int) == (c.toNat : Int)) = true := by rw [heq]; simp
            clear heq hget
            go_wp2
            go_ret
            exact ⟨rfl, HB3.out⟩
          · have hd2 : (((s'[k]'hk).toNat : Int) == (c.toNat : Int)) = false := by
              have : (s'[k]'hk).toNat ≠ c.toNat := fun h => heq (UInt8.toNat_inj.1 h)
              simp; omega
            have HNE := Lib.hid heq
            have HGET := Lib.hid hget
            clear heq hget
            go_wp2_with fail
            have kc := one_str9 w3 c
            have z1 : IntKind.i64.wrap ((k : Int) + 1) = (k : Int) + 1 := IntWalk.i64_in _ (by omega)
            have z2 : (0 : Int) ≤ (k : Int) + 1 := by omega
            have z3 : ((k : Int) + 1).toNat = k + 1 := by omega
            have z4 : (k : Int) + 1 ≤ (s'.size : Int) := by omega
            have z5 : k ≤ s'.size := by omega
            have z6 : ¬ (9223372036854775807 < k + 1) := by omega
            have z7 : ¬ (9223372036854775807 < k + 1 + (s'.size - (k + 1))) := by omega
            have hjb := join_bytes s' k c
            have hjl : (s'.extract 0 k ++ ⟨#[c]⟩ ++ s'.extract (k + 1) s'.size).size ≤ 2000 := by
              show (s'.extract 0 k ++ ⟨#[c]⟩ ++ s'.extract (k + 1) s'.size).data.toList.length ≤ 2000
              rw [hjb, List.length_append, List.length_cons, List.length_take, List.length_drop]
              have h3 : s'.data.toList.length = s'.size := rfl
              omega
            have hcd : CodeIs (w3.alloc (.cells #[.int .u8 (c.toNat : Int)] 5)).drew := (HC3.out.below ((Below.refl w3.heap.size w3).alloc (Nat.le_refl _) _) HC3.out.1).below (Below.drew (Below.refl (w3.heap.size) _)) HC3.out.1
            obtain ⟨T, hT⟩ : ∃ T, T = s'.extract 0 k ++ ⟨#[c]⟩ ++ s'.extract (k + 1) s'.size := ⟨_, rfl⟩
            have CF := chk_form T _ (by rw [hT]; exact hjl) hcd
            have HCF := Lib.hid CF
            have HJB := Lib.hid hjb
            have HT := Lib.hid hT
            clear CF hjb hjl hcd
            refine wp_region_held_drew (S := AnyW) (by kernel_rfl) ?_ (fun hHeld => ?_)
            · exact anyW _
            refine wpAnyH_take (i := 0) (oi := { dst := some 66, op := Go.Op.move (Go.Operand.tmp 0), type := 9, pos := "law.go:174", after := #[], guard := none }) (v := ?av0) rfl (by kernel_rfl) (by kernel_rfl) (by kernel_rfl) (fun _ _ _ h => h) (Or.inl ⟨by rfl, ?ay0⟩) (by assumption) ?ar0
            case ay0 => (intro w hSw; (try dsimp only at hSw); go_simp; try (with_reducible rfl))
            case ar0 =>
            try simp only [Act.put, List.setIfInBounds_toArray, List.set_cons_zero, List.set_cons_succ]
            refine wpAnyH_take (i := 1) (oi := { dst := some 67, op := Go.Op.move (Go.Operand.tmp 1), type := 3, pos := "law.go:174", after := #[], guard := none }) (v := ?av1) rfl (by kernel_rfl) (by kernel_rfl) (by kernel_rfl) (fun _ _ _ h => h) (Or.inl ⟨by rfl, ?ay1⟩) (by assumption) ?ar1
            case ay1 => (intro w hSw; (try dsimp only at hSw); go_simp; try (with_reducible rfl))
            case ar1 =>
            try simp only [Act.put, List.setIfInBounds_toArray, List.set_cons_zero, List.set_cons_succ]
            refine wpAnyH_take (i := 2) (oi := { dst := some 68, op := Go.Op.slice 9 (Go.Operand.tmp 66) none (some (Go.Operand.tmp 67)) none, type := 9, pos := "law.go:174", after := #[{ on := 0, ground := Go.Ground.data }, { on := 1, ground := Go.Ground.data }], guard := none }) (v := ?av2) rfl (by kernel_rfl) (by kernel_rfl) (by kernel_rfl) (fun _ _ _ h => h) (Or.inl ⟨by rfl, ?ay2⟩) (by assumption) ?ar2
            case ay2 => (intro w hSw; (try dsimp only at hSw); go_simp; try (with_reducible rfl))
            case ar2 =>
            try simp only [Act.put, List.setIfInBounds_toArray, List.set_cons_zero, List.set_cons_succ]
            refine wpAnyH_take (i := 3) (oi := { dst := some 69, op := Go.Op.move (Go.Operand.tmp 2), type := 5, pos := "law.go:174", after := #[], guard := none }) (v := ?av3) rfl (by kernel_rfl) (by kernel_rfl) (by kernel_rfl) (fun _ _ _ h => h) (Or.inl ⟨by rfl, ?ay3⟩) (by assumption) ?ar3
            case ay3 => (intro w hSw; (try dsimp only at hSw); go_simp; try (with_reducible rfl))
            case ar3 =>
            try simp only [Act.put, List.setIfInBounds_toArray, List.set_cons_zero, List.set_cons_succ]
            refine wpAnyH_take (i := 7) (oi := { dst := some 73, op := Go.Op.move (Go.Operand.tmp 0), type := 9, pos := "law.go:174", after := #[], guard := none }) (v := ?av7) rfl (by kernel_rfl) (by kernel_rfl) (by kernel_rfl) (fun _ _ _ h => h) (Or.inl ⟨by rfl, ?ay7⟩) (by assumption) ?ar7
            case ay7 => (intro w hSw; (try dsimp only at hSw); go_simp; try (with_reducible rfl))
            case ar7 =>
            try simp only [Act.put, List.setIfInBounds_toArray, List.set_cons_zero, List.set_cons_succ]
            refine wpAnyH_take (i := 8) (oi := { dst := some 74, op := Go.Op.move (Go.Operand.tmp 1), type := 3, pos := "law.go:174", after := #[], guard := none }) (v := ?av8) rfl (by kernel_rfl) (by kernel_rfl) (by kernel_rfl) (fun _ _ _ h => h) (Or.inl ⟨by rfl, ?ay8⟩) (by assumption) ?ar8
            case ay8 => (intro w hSw; (try dsimp only at hSw); go_simp; try (with_reducible rfl))
            case ar8 =>
            try simp only [Act.put, List.setIfInBounds_toArray, List.set_cons_zero, List.set_cons_succ]
            refine wpAnyH_take (i := 9) (oi := { dst := some 75, op := Go.Op.binOp Go.BinOp.add 3 (Go.Operand.tmp 74) (Go.Operand.const (Go.Value.int Go.IntKind.i64 1)) 3, type := 3, pos := "law.go:174", after := #[{ on := 8, ground := Go.Ground.data }], guard := none }) (v := ?av9) rfl (by kernel_rfl) (by kernel_rfl) (by kernel_rfl) (fun _ _ _ h => h) (Or.inl ⟨by rfl, ?ay9⟩) (by assumption) ?ar9
            case ay9 => (intro w hSw; (try dsimp only at hSw); go_simp; try (with_reducible rfl))
            case ar9 =>
            try simp only [Act.put, List.setIfInBounds_toArray, List.set_cons_zero, List.set_cons_succ]
            refine wpAnyH_take (i := 10) (oi := { dst := some 76, op := Go.Op.slice 9 (Go.Operand.tmp 73) (some (Go.Operand.tmp 75)) none none, type := 9, pos := "law.go:174", after := #[{ on := 7, ground := Go.Ground.data }, { on := 9, ground := Go.Ground.data }], guard := none }) (v := ?av10) rfl (by kernel_rfl) (by kernel_rfl) (by kernel_rfl) (fun _ _ _ h => h) (Or.inl ⟨by rfl, ?ay10⟩) (by assumption) ?ar10
            case ay10 => (intro w hSw; (try dsimp only at hSw); go_simp; try (with_reducible rfl))
            case ar10 =>
            try simp only [Act.put, List.setIfInBounds_toArray, List.set_cons_zero, List.set_cons_succ]
            refine wpAnyH_ready (rs := [4]) (by kernel_rfl) (by simp) ?_
            refine AllReadyH.cons (o := { dst := some 70, op := Go.Op.buildSlice 22 1 #[(0, Go.Operand.tmp 69)], type := 22, pos := "law.go:174", after := #[{ on := 3, ground := Go.Ground.data }], guard := none }) rfl (fun K hK => ?_) AllReadyH.nil
            go_simp
            refine hK.out _ _ ?_ (fun hHeld => ?_)
            · exact anyW _
            clear hK K
            try simp only [Act.put, List.setIfInBounds_toArray, List.set_cons_zero, List.set_cons_succ]
            refine wpAnyH_ready (rs := [5]) (by kernel_rfl) (by simp) ?_
            refine AllReadyH.cons (o := { dst := some 71, op := Go.Op.convert 22 9 (Go.Operand.tmp 70), type := 9, pos := "law.go:174", after := #[{ on := 4, ground := Go.Ground.data }], guard := none }) rfl (fun K hK => ?_) AllReadyH.nil
            go_simp
            refine hK.out _ _ ?_ (fun hHeld => ?_)
            · exact anyW _
            clear hK K
            try simp only [Act.put, List.setIfInBounds_toArray, List.set_cons_zero, List.set_cons_succ]
            refine wpAnyH_take (i := 6) (oi := { dst := some 72, op := Go.Op.binOp Go.BinOp.add 9 (Go.Operand.tmp 68) (Go.Operand.tmp 71) 9, type := 9, pos := "law.go:174", after := #[{ on := 2, ground := Go.Ground.data }, { on := 5, ground := Go.Ground.data }], guard := none }) (v := ?av6) rfl (by kernel_rfl) (by kernel_rfl) (by kernel_rfl) (fun _ _ _ h => h) (Or.inl ⟨by rfl, ?ay6⟩) (by assumption) ?ar6
            case ay6 => (intro w hSw; (try dsimp only at hSw); go_simp; try (with_reducible rfl))
            case ar6 =>
            try simp only [Act.put, List.setIfInBounds_toArray, List.set_cons_zero, List.set_cons_succ]
            refine wpAnyH_take (i := 11) (oi := { dst := some 77, op := Go.Op.binOp Go.BinOp.add 9 (Go.Operand.tmp 72) (Go.Operand.tmp 76) 9, type := 9, pos := "law.go:174", after := #[{ on := 6, ground := Go.Ground.data }, { on := 10, ground := Go.Ground.data }], guard := none }) (v := ?av11) rfl (by kernel_rfl) (by kernel_rfl) (by kernel_rfl) (fun _ _ _ h => h) (Or.inl ⟨by rfl, ?ay11⟩) (by assumption) ?ar11
            case ay11 => (intro w hSw; (try dsimp only at hSw); go_simp; try (with_reducible rfl))
            case ar11 =>
            try simp only [Act.put, List.setIfInBounds_toArray, List.set_cons_zero, List.set_cons_succ]
            refine wpAnyH_ready (rs := [12]) (by kernel_rfl) (by simp) ?_
            refine AllReadyH.cons (o := { dst := some 78, op := Go.Op.call { callee := Go.Callee.value (Go.Operand.func 17), args := #[Go.Operand.tmp 77], argTypes := #[9] }, type := 40, pos := "law.go:174", after := #[{ on := 11, ground := Go.Ground.data }], guard := none }) rfl (fun K hK => ?_) AllReadyH.nil
            go_simp
            rw [← HT.out]
            refine HCF.out.mono ?_
            rintro e w4 ⟨X2, n, rfl, hP, hb4⟩
            go_simp
            refine hK.out _ _ ?_ (fun hHeld => ?_)
            · exact anyW _
            clear hK K
            try simp only [Act.put, List.setIfInBounds_toArray, List.set_cons_zero, List.set_cons_succ]
            refine wpAnyH_take (i := 13) (oi := { dst := some 65, op := Go.Op.move (Go.Operand.tmp 78), type := 40, pos := "law.go:174", after := #[{ on := 12, ground := Go.Ground.data }], guard := none }) (v := ?av13) rfl (by kernel_rfl) (by kernel_rfl) (by kernel_rfl) (fun _ _ _ h => h) (Or.inl ⟨by rfl, ?ay13⟩) (by assumption) ?ar13
            case ay13 => (intro w hSw; (try dsimp only at hSw); go_simp; try (with_reducible rfl))
            case ar13 =>
            try simp only [Act.put, List.setIfInBounds_toArray, List.set_cons_zero, List.set_cons_succ]
            refine wpAnyH_take (i := 14) (oi := { dst := some 79, op := Go.Op.extract (Go.Operand.tmp 65) 0, type := 9, pos := "law.go:174", after := #[{ on := 13, ground := Go.Ground.data }], guard := none }) (v := ?av14) rfl (by kernel_rfl) (by kernel_rfl) (by kernel_rfl) (fun _ _ _ h => h) (Or.inl ⟨by rfl, ?ay14⟩) (by assumption) ?ar14
            case ay14 => (intro w hSw; (try dsimp only at hSw); go_simp; try (with_reducible rfl))
            case ar14 =>
            try simp only [Act.put, List.setIfInBounds_toArray, List.set_cons_zero, List.set_cons_succ]
            refine wpAnyH_take (i := 15) (oi := { dst := some 80, op := Go.Op.extract (Go.Operand.tmp 65) 1, type := 26, pos := "law.go:174", after := #[{ on := 13, ground := Go.Ground.data }, { on := 16, ground := Go.Ground.gcOnly Go.Departure.lateStores }], guard := none }) (v := ?av15) rfl (by kernel_rfl) (by kernel_rfl) (by kernel_rfl) (fun _ _ _ h => h) (Or.inl ⟨by rfl, ?ay15⟩) (by assumption) ?ar15
            case ay15 => (intro w hSw; (try dsimp only at hSw); go_simp; try (with_reducible rfl))
            case ar15 =>
            try simp only [Act.put, List.setIfInBounds_toArray, List.set_cons_zero, List.set_cons_succ]
            refine wpAnyH_take (i := 16) (oi := { dst := some 11, op := Go.Op.assign (Go.Operand.tmp 79), type := 9, pos := "law.go:174", after := #[{ on := 14, ground := Go.Ground.data }, { on := 12, ground := Go.Ground.chain }, { on := 0, ground := Go.Ground.phase }, { on := 1, ground := Go.Ground.phase }, { on := 2, ground := Go.Ground.phase }, { on := 3, ground := Go.Ground.phase }, { on := 4, ground := Go.Ground.phase }, { on := 5, ground := Go.Ground.phase }, { on := 6, ground := Go.Ground.phase }, { on := 7, ground := Go.Ground.phase }, { on := 8, ground := Go.Ground.phase }, { on := 9, ground := Go.Ground.phase }, { on := 10, ground := Go.Ground.phase }, { on := 11, ground := Go.Ground.phase }, { on := 12, ground := Go.Ground.phase }, { on := 13, ground := Go.Ground.phase }, { on := 14, ground := Go.Ground.phase }, { on := 15, ground := Go.Ground.textOnly Go.Departure.lateStores }], guard := none }) (v := ?av16) rfl (by kernel_rfl) (by kernel_rfl) (by kernel_rfl) (fun _ _ _ h => h) (Or.inl ⟨by rfl, ?ay16⟩) (by assumption) ?ar16
            case ay16 => (intro w hSw; (try dsimp only at hSw); go_simp; try (with_reducible rfl))
            case ar16 =>
            try simp only [Act.put, List.setIfInBounds_toArray, List.set_cons_zero, List.set_cons_succ]
            refine wpAnyH_take (i := 17) (oi := { dst := some 8, op := Go.Op.assign (Go.Operand.tmp 80), type := 26, pos := "law.go:174", after := #[{ on := 15, ground := Go.Ground.data }, { on := 16, ground := Go.Ground.chain }, { on := 0, ground := Go.Ground.phase }, { on := 1, ground := Go.Ground.phase }, { on := 2, ground := Go.Ground.phase }, { on := 3, ground := Go.Ground.phase }, { on := 4, ground := Go.Ground.phase }, { on := 5, ground := Go.Ground.phase }, { on := 6, ground := Go.Ground.phase }, { on := 7, ground := Go.Ground.phase }, { on := 8, ground := Go.Ground.phase }, { on := 9, ground := Go.Ground.phase }, { on := 10, ground := Go.Ground.phase }, { on := 11, ground := Go.Ground.phase }, { on := 12, ground := Go.Ground.phase }, { on := 13, ground := Go.Ground.phase }, { on := 14, ground := Go.Ground.phase }, { on := 15, ground := Go.Ground.phase }, { on := 16, ground := Go.Ground.phase }], guard := none }) (v := ?av17) rfl (by kernel_rfl) (by kernel_rfl) (by kernel_rfl) (fun _ _ _ h => h) (Or.inl ⟨by rfl, ?ay17⟩) (by assumption) ?ar17
            case ay17 => (intro w hSw; (try dsimp only at hSw); go_simp; try (with_reducible rfl))
            case ar17 =>
            try simp only [Act.put, List.setIfInBounds_toArray, List.set_cons_zero, List.set_cons_succ]
            refine wpAnyH_done (by kernel_rfl) ?_ _
            have HB4 : Below w.heap.size w w4 := HB3.out.trans ((below_made2 hb4).mono HB3.out.size)
            have hTl : T.data.toList = s'.data.toList.take k ++ c :: s'.data.toList.drop (k + 1) := by rw [HT.out]; exact HJB.out
            rcases hP.out with ⟨hg2, rfl, hX2⟩ | rfl
            · rw [hTl] at hg2 hX2
              have hne := str_ne (sum_apart HGET.out HNE.out HG.out hg2)
              rw [← hX2, ← HX.out] at hne
              clear hg2 hX2 hTl
              go_wp2
              go_ret
              exact ⟨rfl, HB4⟩
            · clear hTl
              go_wp2
              go_ret
              exact ⟨rfl, HB4⟩
end Go.Proofs.YtginbfeimiihlaaDoor
