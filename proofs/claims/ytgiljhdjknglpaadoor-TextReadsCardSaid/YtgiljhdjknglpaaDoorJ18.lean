/-
  Texts joined: BcRfrom. Conditions: those of each.
-/
import Derived.Test.YtgiljhdjknglpaaDoorJ17
import Derived.Test.YtgiljhdjknglpaaDoorJ11
import Derived.Test.YtgiljhdjknglpaaDoorJ16
/-
  The reference's FromBech32. Conditions: sizes within the reach.
-/
namespace Go.Proofs.YtgiljhdjknglpaaDoor
open Go.RowKit

theorem any_take {p : UInt8 → Bool} {l : List UInt8} {i : Nat} {q : UInt8} (hq : l[i]? = some q) : (l.take (i + 1)).any p = ((l.take i).any p || p q) := Lib.any_take_succ p l i q hq
theorem lowS_take {l : List UInt8} {i : Nat} {q : UInt8} (hq : l[i]? = some q) : lowS (l.take (i + 1)) = lowS (l.take i) ++ [Lib.lowerB q] := by
  unfold lowS
  rw [List.take_add_one, hq, List.map_append]
  rfl
theorem lastIdx_next {cs : List UInt8} {i : Nat} {q : UInt8} (hq : cs[i]? = some q) : Lib.lastIdx ⟨(lowS cs).toArray⟩ 49 (i + 1) = if q = 49 then (i : Int) else Lib.lastIdx ⟨(lowS cs).toArray⟩ 49 i := by
  have hi := (List.getElem?_eq_some_iff.1 hq).1
  have hil : i < (lowS cs).length := by rw [lowS_length]; exact hi
  have hb : ((⟨(lowS cs).toArray⟩ : ByteArray).data[i]!) = Lib.lowerB q := by
    rw [get_bang hil]
    have h2 := (List.getElem?_eq_some_iff.1 hq).2
    have h3 : (lowS cs)[i]? = some (Lib.lowerB q) := by unfold lowS; rw [List.getElem?_map, hq]; rfl
    exact (List.getElem?_eq_some_iff.1 h3).2
  by_cases h : q = 49
  · rw [if_pos h]
    refine Lib.lastIdx_hit _ _ _ ?_
    rw [hb, (lowerB_one q).2 h]
    rfl
  · rw [if_neg h]
    refine Lib.lastIdx_miss _ _ _ ?_
    rw [hb]
    intro h3
    refine h ((lowerB_one q).1 (UInt8.toNat_inj.1 ?_))
    have : (49 : UInt8).toNat = 49 := rfl
    omega
theorem oneAt_last (cs : List UInt8) : oneAt (lowS cs) = Lib.lastIdx ⟨(lowS cs).toArray⟩ 49 cs.length := by
  unfold oneAt Lib.lastIndexByte
  have : (⟨(lowS cs).toArray⟩ : ByteArray).size = cs.length := by show (lowS cs).toArray.size = _; rw [List.size_toArray, lowS_length]
  rw [this]

theorem lower_up {q : UInt8} (h : Lib.isUpperB q = true) : bv (Lib.lowerB q) = .int .u8 ((q.toNat : Int) + 32) := by
  have e := all_256 (p := fun c => Lib.isUpperB c = true → (Lib.lowerB c).toNat = c.toNat + 32) (by decide +kernel) q h
  unfold bv
  rw [e]
  congr 1
theorem split_bad_char {cs : List UInt8} {q : UInt8} (hq : q ∈ cs) (hb : okB q = false) : splitOk cs = false := by
  rw [splitOk_eq cs false (List.all_eq_false.2 ⟨q, hq, by rw [hb]; simp⟩), Bool.false_and]

set_option maxRecDepth 100000 in
set_option maxHeartbeats 25600000 in
theorem reffrom_any (s : ByteArray) (w : World) (hs : s.size ≤ 140737488355328) :
    Calls Tryd.prog 7 #[.string s] w (BechPost w (fromS s.data.toList)) := by
  obtain ⟨i0, hi, hz0, hz1, hz2⟩ := info_parts info_u8
  obtain ⟨cs, hcs⟩ : ∃ cs, cs = s.data.toList := ⟨_, rfl⟩
  have hhs : cs.length = s.size := by rw [hcs]; rfl
  rw [← hcs]
  have HCS := Lib.hid hcs
  have HHS := Lib.hid hhs
  obtain ⟨r, hr⟩ : ∃ r, r = fromS cs := ⟨_, rfl⟩
  rw [← hr]
  by_cases h1 : 90 < s.size
  · have hr2 := fromS_size (cs := cs) (by omega)
    rw [← hr] at hr2
    have HR := Lib.hid hr2
    have d1 : decide (90 < (s.size : Int)) = true := decide_eq_true (by omega)
    clear hr hr2 hhs h1 hcs
    go_enter Tryd.func7, Tryd.ntmps7
    go_wp2_with fail
    (try simp only [Exit.inBlock, Exit.then]); refine bodyPost_ret (results_tmp4 rfl _ _ _) rfl ?_
    exact ⟨.slice none 0 0, by rw [HR.out]; rfl, by rw [HR.out]; exact Byt.nil _ _, Below.refl _ _⟩
  · have d1 : decide (90 < (s.size : Int)) = false := decide_eq_false (by omega)
    have hs90 : s.size ≤ 90 := by omega
    have hfm := fun (h : splitOk cs = false) => fromS_form (cs := cs) (by omega) h
    have hsm := fun (h : splitOk cs = true) => fromS_sum (cs := cs) (by omega) h
    rw [← hr] at hfm hsm
    have HFM := Lib.hid hfm
    have HSM := Lib.hid hsm
    obtain ⟨LO, hLO⟩ : ∃ LO : ByteArray, LO = ⟨(lowS cs).toArray⟩ := ⟨_, rfl⟩
    have hln : ∀ (i : Nat) (q : UInt8), cs[i]? = some q → Lib.lastIdx LO 49 (i + 1) = if q = 49 then (i : Int) else Lib.lastIdx LO 49 i := fun i q hq => by rw [hLO]; exact lastIdx_next hq
    have hol : oneAt (lowS cs) = Lib.lastIdx LO 49 cs.length := by rw [hLO]; exact oneAt_last cs
    have HLN := Lib.hid hln
    have HOL := Lib.hid hol
    clear hr hhs h1 hcs hfm hsm hln hol hLO
    go_enter Tryd.func7, Tryd.ntmps7
    go_wp2_with fail
    go_loopw [10, 6, 7, 8, 9] (fun j gg ss ll vv wr => ∃ (i : Nat) (g sm : Bool) (k : Int), i ≤ s.size ∧ j = .int .i64 i ∧ gg = .bool g ∧ ss = .bool sm ∧ ll = .int .i64 k ∧ Hid (g = (cs.take i).any Lib.isUpperB) ∧ Hid (sm = (cs.take i).any Lib.isLowerB) ∧ Hid (k = Lib.lastIdx LO 49 i) ∧ Hid (OwnB wr w.heap.size vv (lowS (cs.take i))) ∧ Hid (∀ c ∈ cs.take i, okB c = true) ∧ Below w.heap.size w wr) (fun j _ _ _ _ _ => s.size - (intOf j).toNat)
    case atStart => exact ⟨0, false, false, -1, Nat.zero_le _, rfl, rfl, rfl, rfl, Lib.hid rfl, Lib.hid rfl, Lib.hid rfl, Lib.hid (OwnB.nil _ _), Lib.hid (by simp), Below.refl _ _⟩
    case round =>
      obtain ⟨i, g, sm, k, hi2, rfl, rfl, rfl, rfl, HG, HSM2, HK, HO, HALL, hbel⟩ := hrel
      by_cases hlt : i < s.size
      · obtain ⟨q, hq⟩ : ∃ q, q = s[i]'hlt := ⟨_, rfl⟩
        have hqi : cs[i]? = some q := by rw [HCS.out, hq]; exact Lib.data_getElem? s i hlt
        have hqs : (s[i]'hlt) = q := hq.symm
        have HQI := Lib.hid hqi
        clear hq hqi
        by_cases h1 : (q.toNat : Int) < 33
        · have e1 : decide ((q.toNat : Int) < 33) = true := decide_eq_true h1
          have HR := Lib.hid (HFM.out (split_bad_char (List.mem_of_getElem? HQI.out) (by unfold okB; rw [decide_eq_false (by omega)]; rfl)))
          clear h1
          go_wp2_with fail
          (try simp only [Exit.inBlock, Exit.then]); refine bodyPost_ret (results_tmp4 rfl _ _ _) rfl ?_
          exact ⟨.slice none 0 0, by rw [HR.out]; rfl, by rw [HR.out]; exact Byt.nil _ _, hbel⟩
        · have e1 : decide ((q.toNat : Int) < 33) = false := decide_eq_false h1
          by_cases h2 : 126 < (q.toNat : Int)
          · have e2 : decide (126 < (q.toNat : Int)) = true := decide_eq_true h2
            have HR := Lib.hid (HFM.out (split_bad_char (List.mem_of_getElem? HQI.out) (by unfold okB; rw [decide_eq_false (show ¬ (q.toNat : Int) ≤ 126 by omega), Bool.and_false])))
            clear h1 h2
            go_wp2_with fail
            (try simp only [Exit.inBlock, Exit.then]); refine bodyPost_ret (results_tmp4 rfl _ _ _) rfl ?_
            exact ⟨.slice none 0 0, by rw [HR.out]; rfl, by rw [HR.out]; exact Byt.nil _ _, hbel⟩
          · have e2 : decide (126 < (q.toNat : Int)) = false := decide_eq_false h2
            have hok := ok_int q h1 h2
            have HNA : Hid (∀ c ∈ cs.take (i + 1), okB c = true) := Lib.hid (fun c hc => by
              rw [List.take_add_one, HQI.out] at hc
              rcases List.mem_append.1 hc with h5 | h5
              · exact HALL.out c h5
              · rw [List.mem_singleton.1 h5]; exact hok)
            obtain ⟨Z, hZ⟩ : ∃ Z, Z = lowS (cs.take i) := ⟨_, rfl⟩
            have hZl : Z.length ≤ 90 := by rw [hZ, lowS_length, List.length_take]; omega
            have hoz := HO.out
            rw [← hZ] at hoz
            obtain ⟨As, c9, hvv⟩ := hoz.form
            subst hvv
            have HOZ := Lib.hid hoz
            have HZ := Lib.hid hZ
            clear hoz hZ HO hok HALL
            have hbsz := hbel.size
            by_cases c1 : (q.toNat : Int) < 65
            · by_cases c49 : (q.toNat : Int) = 49
              · as_aux_lemma =>
                  have e65 : decide (65 ≤ (q.toNat : Int)) = false := decide_eq_false (by omega)
                  have e90 : decide ((q.toNat : Int) ≤ 90) = true := decide_eq_true (by omega)
                  have e97 : decide (97 ≤ (q.toNat : Int)) = false := decide_eq_false (by omega)
                  have e122 : decide ((q.toNat : Int) ≤ 122) = true := decide_eq_true (by omega)
                  have hU : Lib.isUpperB q = false := by rw [Lib.isUpperB_int, e65, e90]; rfl
                  have hLw : Lib.isLowerB q = false := by rw [Lib.isLowerB_int, e97, e122]; rfl
                  have e49 : (((q.toNat : Int)) == 49) = true := by rw [beq_iff_eq]; omega
                  have hcb : bv (Lib.lowerB q) = .int .u8 (q.toNat : Int) := by rw [Lib.lowerB_of_not q hU]; rfl
                  have hk2 : Lib.lastIdx LO 49 (i + 1) = (i : Int) := by rw [HLN.out i q HQI.out, if_pos (UInt8.toNat_inj.1 (by show q.toNat = 49; omega))]
                  have HK2 := Lib.hid hk2
                  have HU := Lib.hid hU
                  have HLW := Lib.hid hLw
                  have HM := Lib.hid (Byt.made wr 5 [.int .u8 ((q.toNat : Int))] [Lib.lowerB q] (by rw [List.map_cons, List.map_nil, hcb]) (by unfold maxLen; simp))
                  have HOA := Lib.hid (World.ownsRow.alloc HOZ.out (.cells #[.int .u8 ((q.toNat : Int))] 5))
                  clear hk2 hU hLw hcb c49
                  cases g <;> cases sm
                  all_goals go_wp2_with (at_builtin; refine wpList_append_bytes rfl (.tmp 60) (.tmp 62) 23 rfl w.heap.size 5 i0 slice_u8 hi hz0 hz1 hz2 _ Z.length (Z.map bv) rfl HOA.out (wr.heap.size + 1) _ [Lib.lowerB q] rfl HM.out (by simp; omega) (by simp; omega) ?_; intro v1 w1 hown1 hg1 hat1; have HO1 := Lib.hid (own_b (ys := Z) (zs := [Lib.lowerB q]) hown1 rfl); have HB1 := Lib.hid ((hbel.alloc hbel.size _).grown hg1 (by simp; omega) (fun j hj => (World.ownsRow.lt HOA.out j hj).1)); clear hown1 hg1 hat1)
                  all_goals exact ⟨⟨i + 1, _, _, _, by omega, by go_num, rfl, rfl, rfl, Lib.hid (by rw [any_take HQI.out, ← HG.out, HU.out]; rfl), Lib.hid (by rw [any_take HQI.out, ← HSM2.out, HLW.out]; rfl), Lib.hid (by rw [HK2.out]), Lib.hid (by rw [lowS_take HQI.out, ← HZ.out]; exact HO1.out), HNA, HB1.out⟩, by simp [intOf]; omega⟩
              · as_aux_lemma =>
                  have hne49 : (q.toNat : Int) ≠ ((49 : UInt8).toNat : Int) := c49
                  have e65 : decide (65 ≤ (q.toNat : Int)) = false := decide_eq_false (by omega)
                  have e90 : decide ((q.toNat : Int) ≤ 90) = true := decide_eq_true (by omega)
                  have e97 : decide (97 ≤ (q.toNat : Int)) = false := decide_eq_false (by omega)
                  have e122 : decide ((q.toNat : Int) ≤ 122) = true := decide_eq_true (by omega)
                  have hU : Lib.isUpperB q = false := by rw [Lib.isUpperB_int, e65, e90]; rfl
                  have hLw : Lib.isLowerB q = false := by rw [Lib.isLowerB_int, e97, e122]; rfl
                  have e49 : (((q.toNat : Int)) == 49) = false := by rw [beq_eq_false_iff_ne]; omega
                  have hcb : bv (Lib.lowerB q) = .int .u8 (q.toNat : Int) := by rw [Lib.lowerB_of_not q hU]; rfl
                  have hk2 : Lib.lastIdx LO 49 (i + 1) = Lib.lastIdx LO 49 i := by rw [HLN.out i q HQI.out, if_neg (fun h => by rw [h] at hne49; exact hne49 rfl)]
                  have HK2 := Lib.hid hk2
                  have HU := Lib.hid hU
                  have HLW := Lib.hid hLw
                  have HM := Lib.hid (Byt.made wr 5 [.int .u8 ((q.toNat : Int))] [Lib.lowerB q] (by rw [List.map_cons, List.map_nil, hcb]) (by unfold maxLen; simp))
                  have HOA := Lib.hid (World.ownsRow.alloc HOZ.out (.cells #[.int .u8 ((q.toNat : Int))] 5))
                  clear hk2 hU hLw hcb hne49
                  cases g <;> cases sm
                  all_goals go_wp2_with (at_builtin; refine wpList_append_bytes rfl (.tmp 60) (.tmp 62) 23 rfl w.heap.size 5 i0 slice_u8 hi hz0 hz1 hz2 _ Z.length (Z.map bv) rfl HOA.out (wr.heap.size + 1) _ [Lib.lowerB q] rfl HM.out (by simp; omega) (by simp; omega) ?_; intro v1 w1 hown1 hg1 hat1; have HO1 := Lib.hid (own_b (ys := Z) (zs := [Lib.lowerB q]) hown1 rfl); have HB1 := Lib.hid ((hbel.alloc hbel.size _).grown hg1 (by simp; omega) (fun j hj => (World.ownsRow.lt HOA.out j hj).1)); clear hown1 hg1 hat1)
                  all_goals exact ⟨⟨i + 1, _, _, _, by omega, by go_num, rfl, rfl, rfl, Lib.hid (by rw [any_take HQI.out, ← HG.out, HU.out]; rfl), Lib.hid (by rw [any_take HQI.out, ← HSM2.out, HLW.out]; rfl), Lib.hid (by rw [HK2.out, ← HK.out]), Lib.hid (by rw [lowS_take HQI.out, ← HZ.out]; exact HO1.out), HNA, HB1.out⟩, by simp [intOf]; omega⟩
            · have hc1 : 65 ≤ (q.toNat : Int) := by omega
              by_cases c2 : (q.toNat : Int) ≤ 90
              · as_aux_lemma =>
                  have e65 : decide (65 ≤ (q.toNat : Int)) = true := decide_eq_true (by omega)
                  have e90 : decide ((q.toNat : Int) ≤ 90) = true := decide_eq_true (by omega)
                  have e97 : decide (97 ≤ (q.toNat : Int)) = false := decide_eq_false (by omega)
                  have e122 : decide ((q.toNat : Int) ≤ 122) = true := decide_eq_true (by omega)
                  have hU : Lib.isUpperB q = true := by rw [Lib.isUpperB_int, e65, e90]; rfl
                  have hLw : Lib.isLowerB q = false := by rw [Lib.isLowerB_int, e97, e122]; rfl
                  have e49 : (((q.toNat : Int) + 32) == 49) = false := by rw [beq_eq_false_iff_ne]; omega
                  have hcb : bv (Lib.lowerB q) = .int .u8 ((q.toNat : Int) + 32) := lower_up hU
                  have hw : IntKind.u8.wrap ((q.toNat : Int) + 32) = (q.toNat : Int) + 32 := by rw [IntKind.wrap_u8]; omega
                  have hk2 : Lib.lastIdx LO 49 (i + 1) = Lib.lastIdx LO 49 i := by rw [HLN.out i q HQI.out, if_neg (fun h => by rw [h] at hc1; have h2 : ((49 : UInt8).toNat : Int) = 49 := rfl; omega)]
                  have HK2 := Lib.hid hk2
                  have HU := Lib.hid hU
                  have HLW := Lib.hid hLw
                  have HM := Lib.hid (Byt.made wr 5 [.int .u8 ((q.toNat : Int) + 32)] [Lib.lowerB q] (by rw [List.map_cons, List.map_nil, hcb]) (by unfold maxLen; simp))
                  have HOA := Lib.hid (World.ownsRow.alloc HOZ.out (.cells #[.int .u8 ((q.toNat : Int) + 32)] 5))
                  clear hk2 hU hLw hcb
                  cases g <;> cases sm
                  all_goals go_wp2_with (at_builtin; refine wpList_append_bytes rfl (.tmp 60) (.tmp 62) 23 rfl w.heap.size 5 i0 slice_u8 hi hz0 hz1 hz2 _ Z.length (Z.map bv) rfl HOA.out (wr.heap.size + 1) _ [Lib.lowerB q] rfl HM.out (by simp; omega) (by simp; omega) ?_; intro v1 w1 hown1 hg1 hat1; have HO1 := Lib.hid (own_b (ys := Z) (zs := [Lib.lowerB q]) hown1 rfl); have HB1 := Lib.hid ((hbel.alloc hbel.size _).grown hg1 (by simp; omega) (fun j hj => (World.ownsRow.lt HOA.out j hj).1)); clear hown1 hg1 hat1)
                  all_goals exact ⟨⟨i + 1, _, _, _, by omega, by go_num, rfl, rfl, rfl, Lib.hid (by rw [any_take HQI.out, ← HG.out, HU.out]; rfl), Lib.hid (by rw [any_take HQI.out, ← HSM2.out, HLW.out]; rfl), Lib.hid (by rw [HK2.out, ← HK.out]), Lib.hid (by rw [lowS_take HQI.out, ← HZ.out]; exact HO1.out), HNA, HB1.out⟩, by simp [intOf]; omega⟩
              · by_cases c3 : (q.toNat : Int) < 97
                · as_aux_lemma =>
                    have e65 : decide (65 ≤ (q.toNat : Int)) = true := decide_eq_true (by omega)
                    have e90 : decide ((q.toNat : Int) ≤ 90) = false := decide_eq_false (by omega)
                    have e97 : decide (97 ≤ (q.toNat : Int)) = false := decide_eq_false (by omega)
                    have e122 : decide ((q.toNat : Int) ≤ 122) = true := decide_eq_true (by omega)
                    have hU : Lib.isUpperB q = false := by rw [Lib.isUpperB_int, e65, e90]; rfl
                    have hLw : Lib.isLowerB q = false := by rw [Lib.isLowerB_int, e97, e122]; rfl
                    have e49 : (((q.toNat : Int)) == 49) = false := by rw [beq_eq_false_iff_ne]; omega
                    have hcb : bv (Lib.lowerB q) = .int .u8 (q.toNat : Int) := by rw [Lib.lowerB_of_not q hU]; rfl
                    have hk2 : Lib.lastIdx LO 49 (i + 1) = Lib.lastIdx LO 49 i := by rw [HLN.out i q HQI.out, if_neg (fun h => by rw [h] at hc1; have h2 : ((49 : UInt8).toNat : Int) = 49 := rfl; omega)]
                    have HK2 := Lib.hid hk2
                    have HU := Lib.hid hU
                    have HLW := Lib.hid hLw
                    have HM := Lib.hid (Byt.made wr 5 [.int .u8 ((q.toNat : Int))] [Lib.lowerB q] (by rw [List.map_cons, List.map_nil, hcb]) (by unfold maxLen; simp))
                    have HOA := Lib.hid (World.ownsRow.alloc HOZ.out (.cells #[.int .u8 ((q.toNat : Int))] 5))
                    clear hk2 hU hLw hcb
                    cases g <;> cases sm
                    all_goals go_wp2_with (at_builtin; refine wpList_append_bytes rfl (.tmp 60) (.tmp 62) 23 rfl w.heap.size 5 i0 slice_u8 hi hz0 hz1 hz2 _ Z.length (Z.map bv) rfl HOA.out (wr.heap.size + 1) _ [Lib.lowerB q] rfl HM.out (by simp; omega) (by simp; omega) ?_; intro v1 w1 hown1 hg1 hat1; have HO1 := Lib.hid (own_b (ys := Z) (zs := [Lib.lowerB q]) hown1 rfl); have HB1 := Lib.hid ((hbel.alloc hbel.size _).grown hg1 (by simp; omega) (fun j hj => (World.ownsRow.lt HOA.out j hj).1)); clear hown1 hg1 hat1)
                    all_goals exact ⟨⟨i + 1, _, _, _, by omega, by go_num, rfl, rfl, rfl, Lib.hid (by rw [any_take HQI.out, ← HG.out, HU.out]; rfl), Lib.hid (by rw [any_take HQI.out, ← HSM2.out, HLW.out]; rfl), Lib.hid (by rw [HK2.out, ← HK.out]), Lib.hid (by rw [lowS_take HQI.out, ← HZ.out]; exact HO1.out), HNA, HB1.out⟩, by simp [intOf]; omega⟩
                · by_cases c4 : (q.toNat : Int) ≤ 122
                  · as_aux_lemma =>
                      have e65 : decide (65 ≤ (q.toNat : Int)) = true := decide_eq_true (by omega)
                      have e90 : decide ((q.toNat : Int) ≤ 90) = false := decide_eq_false (by omega)
                      have e97 : decide (97 ≤ (q.toNat : Int)) = true := decide_eq_true (by omega)
                      have e122 : decide ((q.toNat : Int) ≤ 122) = true := decide_eq_true (by omega)
                      have hU : Lib.isUpperB q = false := by rw [Lib.isUpperB_int, e65, e90]; rfl
                      have hLw : Lib.isLowerB q = true := by rw [Lib.isLowerB_int, e97, e122]; rfl
                      have e49 : (((q.toNat : Int)) == 49) = false := by rw [beq_eq_false_iff_ne]; omega
                      have hcb : bv (Lib.lowerB q) = .int .u8 (q.toNat : Int) := by rw [Lib.lowerB_of_not q hU]; rfl
                      have hk2 : Lib.lastIdx LO 49 (i + 1) = Lib.lastIdx LO 49 i := by rw [HLN.out i q HQI.out, if_neg (fun h => by rw [h] at hc1; have h2 : ((49 : UInt8).toNat : Int) = 49 := rfl; omega)]
                      have HK2 := Lib.hid hk2
                      have HU := Lib.hid hU
                      have HLW := Lib.hid hLw
                      have HM := Lib.hid (Byt.made wr 5 [.int .u8 ((q.toNat : Int))] [Lib.lowerB q] (by rw [List.map_cons, List.map_nil, hcb]) (by unfold maxLen; simp))
                      have HOA := Lib.hid (World.ownsRow.alloc HOZ.out (.cells #[.int .u8 ((q.toNat : Int))] 5))
                      clear hk2 hU hLw hcb
                      cases g <;> cases sm
                      all_goals go_wp2_with (at_builtin; refine wpList_append_bytes rfl (.tmp 60) (.tmp 62) 23 rfl w.heap.size 5 i0 slice_u8 hi hz0 hz1 hz2 _ Z.length (Z.map bv) rfl HOA.out (wr.heap.size + 1) _ [Lib.lowerB q] rfl HM.out (by simp; omega) (by simp; omega) ?_; intro v1 w1 hown1 hg1 hat1; have HO1 := Lib.hid (own_b (ys := Z) (zs := [Lib.lowerB q]) hown1 rfl); have HB1 := Lib.hid ((hbel.alloc hbel.size _).grown hg1 (by simp; omega) (fun j hj => (World.ownsRow.lt HOA.out j hj).1)); clear hown1 hg1 hat1)
                      all_goals exact ⟨⟨i + 1, _, _, _, by omega, by go_num, rfl, rfl, rfl, Lib.hid (by rw [any_take HQI.out, ← HG.out, HU.out]; rfl), Lib.hid (by rw [any_take HQI.out, ← HSM2.out, HLW.out]; rfl), Lib.hid (by rw [HK2.out, ← HK.out]), Lib.hid (by rw [lowS_take HQI.out, ← HZ.out]; exact HO1.out), HNA, HB1.out⟩, by simp [intOf]; omega⟩
                  · as_aux_lemma =>
                      have e65 : decide (65 ≤ (q.toNat : Int)) = true := decide_eq_true (by omega)
                      have e90 : decide ((q.toNat : Int) ≤ 90) = false := decide_eq_false (by omega)
                      have e97 : decide (97 ≤ (q.toNat : Int)) = true := decide_eq_true (by omega)
                      have e122 : decide ((q.toNat : Int) ≤ 122) = false := decide_eq_false (by omega)
                      have hU : Lib.isUpperB q = false := by rw [Lib.isUpperB_int, e65, e90]; rfl
                      have hLw : Lib.isLowerB q = false := by rw [Lib.isLowerB_int, e97, e122]; rfl
                      have e49 : (((q.toNat : Int)) == 49) = false := by rw [beq_eq_false_iff_ne]; omega
                      have hcb : bv (Lib.lowerB q) = .int .u8 (q.toNat : Int) := by rw [Lib.lowerB_of_not q hU]; rfl
                      have hk2 : Lib.lastIdx LO 49 (i + 1) = Lib.lastIdx LO 49 i := by rw [HLN.out i q HQI.out, if_neg (fun h => by rw [h] at hc1; have h2 : ((49 : UInt8).toNat : Int) = 49 := rfl; omega)]
                      have HK2 := Lib.hid hk2
                      have HU := Lib.hid hU
                      have HLW := Lib.hid hLw
                      have HM := Lib.hid (Byt.made wr 5 [.int .u8 ((q.toNat : Int))] [Lib.lowerB q] (by rw [List.map_cons, List.map_nil, hcb]) (by unfold maxLen; simp))
                      have HOA := Lib.hid (World.ownsRow.alloc HOZ.out (.cells #[.int .u8 ((q.toNat : Int))] 5))
                      clear hk2 hU hLw hcb
                      cases g <;> cases sm
                      all_goals go_wp2_with (at_builtin; refine wpList_append_bytes rfl (.tmp 60) (.tmp 62) 23 rfl w.heap.size 5 i0 slice_u8 hi hz0 hz1 hz2 _ Z.length (Z.map bv) rfl HOA.out (wr.heap.size + 1) _ [Lib.lowerB q] rfl HM.out (by simp; omega) (by simp; omega) ?_; intro v1 w1 hown1 hg1 hat1; have HO1 := Lib.hid (own_b (ys := Z) (zs := [Lib.lowerB q]) hown1 rfl); have HB1 := Lib.hid ((hbel.alloc hbel.size _).grown hg1 (by simp; omega) (fun j hj => (World.ownsRow.lt HOA.out j hj).1)); clear hown1 hg1 hat1)
                      all_goals exact ⟨⟨i + 1, _, _, _, by omega, by go_num, rfl, rfl, rfl, Lib.hid (by rw [any_take HQI.out, ← HG.out, HU.out]; rfl), Lib.hid (by rw [any_take HQI.out, ← HSM2.out, HLW.out]; rfl), Lib.hid (by rw [HK2.out, ← HK.out]), Lib.hid (by rw [lowS_take HQI.out, ← HZ.out]; exact HO1.out), HNA, HB1.out⟩, by simp [intOf]; omega⟩
      · have hie : cs.take i = cs := List.take_of_length_le (by have := HHS.out; omega)
        have hii : i = cs.length := by have := HHS.out; omega
        have hg := HG.out
        have hsm := HSM2.out
        have hk := HK.out
        have ho := HO.out
        rw [hie] at hg hsm ho
        rw [hii, ← HOL.out] at hk
        have hall : cs.all okB = true := List.all_eq_true.2 (fun c hc => HALL.out c (by rw [hie]; exact hc))
        have hsp := splitOk_eq cs true hall
        rw [Bool.true_and, ← hg, ← hsm, ← hk] at hsp
        obtain ⟨Lw, hLw⟩ : ∃ Lw, Lw = lowS cs := ⟨_, rfl⟩
        have hLl : Lw.length = s.size := by rw [hLw, lowS_length]; exact HHS.out
        rw [← hLw] at ho
        obtain ⟨As, c9, hvv⟩ := ho.form
        subst hvv
        have HOL2 := Lib.hid ho
        have hbsz := hbel.size
        have his : ¬ i < s.size := hlt
        clear HG HSM2 HK HO HALL hie hii hg hsm ho hall
        cases g with
        | false =>
          rw [Bool.false_and, Bool.not_false, Bool.true_and] at hsp
          by_cases hk1 : k < 1
          · have HR := Lib.hid (HFM.out (by rw [hsp, decide_eq_false (show ¬ (1 : Int) ≤ k by omega)]; rfl))
            have d1 : decide (k < 1) = true := decide_eq_true hk1
            clear hk1 hsp hk
            go_wp2_with fail
            (try simp only [Exit.inBlock, Exit.then]); refine bodyPost_ret (results_tmp4 rfl _ _ _) rfl ?_
            exact ⟨.slice none 0 0, by rw [HR.out]; rfl, by rw [HR.out]; exact Byt.nil _ _, hbel⟩
          · have d1 : decide (k < 1) = false := decide_eq_false hk1
            obtain ⟨kk, hkk⟩ : ∃ kk : Nat, k = kk := ⟨k.toNat, by omega⟩
            subst hkk
            have hkL : kk < Lw.length := by
              rcases oneAt_spec (lowS cs) with ⟨e, _⟩ | ⟨j, e, hj, _⟩
              · omega
              · have := (List.getElem?_eq_some_iff.1 hj).1
                rw [hLw]
                omega
            have htail : tailS cs = Lw.drop (kk + 1) := by unfold tailS; rw [← hk, Int.toNat_natCast, hLw]
            have hhead : headS cs = Lw.take kk := by unfold headS; rw [← hk, Int.toNat_natCast, hLw]
            have htl : (tailS cs).length = s.size - (kk + 1) := by rw [htail, List.length_drop, hLl]
            rw [decide_eq_true (show (1 : Int) ≤ (kk : Int) by omega), Bool.true_and] at hsp
            by_cases h7 : (s.size : Int) - (kk : Int) < 7
            · have HR := Lib.hid (HFM.out (by rw [hsp, decide_eq_false (by omega)]; rfl))
              have d7 : decide ((s.size : Int) - (kk : Int) < 7) = true := decide_eq_true h7
              clear h7 hsp hk htail hhead htl hk1
              go_wp2_with fail
              (try simp only [Exit.inBlock, Exit.then]); refine bodyPost_ret (results_tmp4 rfl _ _ _) rfl ?_
              exact ⟨.slice none 0 0, by rw [HR.out]; rfl, by rw [HR.out]; exact Byt.nil _ _, hbel⟩
            · have d7 : decide ((s.size : Int) - (kk : Int) < 7) = false := decide_eq_false h7
              rw [decide_eq_true (show 6 ≤ (tailS cs).length by omega), Bool.true_and] at hsp
              have HSP := Lib.hid hsp
              have HTAIL := Lib.hid htail
              have HHEAD := Lib.hid hhead
              have HTL := Lib.hid htl
              have hk90 : kk < 90 := by omega
              obtain ⟨T, hT⟩ : ∃ T, T = tailS cs := ⟨_, rfl⟩
              have hTl : T.length = s.size - (kk + 1) := by rw [hT]; exact htl
              have HT := Lib.hid hT
              have HTLL := Lib.hid hTl
              have hT6 : 6 ≤ T.length := by omega
              have HLW := Lib.hid hLw
              clear h7 hsp hk htail hhead htl hk1 hT hTl hLw
              have hbyL : Byt wr wr.heap.size (.slice As Lw.length c9) Lw := Byt.of_own HOL2.out
              have hcap := hbyL.cap
              have HBL := Lib.hid hbyL
              have HLL := Lib.hid hLl
              have HKL := Lib.hid hkL
              have hLn : Lw.length ≤ 90 := by omega
              obtain ⟨wr0, hwr0⟩ : ∃ x, x = wr := ⟨_, rfl⟩
              subst hwr0
              clear hbyL hLl hkL
              go_wp2_with fail
              go_loopw [13, 12] (fun j vv wx => ∃ ii : Nat, kk + 1 ≤ ii ∧ ii ≤ Lw.length ∧ j = .int .i64 (ii : Int) ∧ Hid (OwnB wx wr0.heap.size vv (placesB l32 (T.take (ii - (kk + 1))))) ∧ Hid (∀ c ∈ T.take (ii - (kk + 1)), knownB c = true) ∧ Hid (Below wr0.heap.size wr0 wx)) (fun j _ _ => Lw.length - (intOf j).toNat)
              case atStart => exact ⟨kk + 1, Nat.le_refl _, by have := HKL.out; omega, by go_num, Lib.hid (by rw [Nat.sub_self]; exact OwnB.nil _ _), Lib.hid (by rw [Nat.sub_self]; simp), Lib.hid (Below.refl _ _)⟩
              case round =>
                obtain ⟨ii, hii1, hii2, rfl, HOD, HAK, HBX⟩ := hrel
                by_cases hlt2 : ii < Lw.length
                · as_aux_lemma =>
                    have dlt : decide ((ii : Int) < (Lw.length : Int)) = true := decide_eq_true (by omega)
                    have dlt2 : (ii : Int) < (Lw.length : Int) := by omega
                    have hTq : ∃ q, T[ii - (kk + 1)]? = some q ∧ Lw[ii]? = some q := by
                      refine ⟨Lw[ii], ?_, List.getElem?_eq_getElem hlt2⟩
                      rw [HT.out, HTAIL.out, List.getElem?_drop]
                      have : kk + 1 + (ii - (kk + 1)) = ii := by omega
                      rw [this]
                      exact List.getElem?_eq_getElem hlt2
                    obtain ⟨q, hTq, hLq⟩ := hTq
                    obtain ⟨A', c', e0, _, _, _, h4⟩ := HBL.out
                    obtain ⟨e1, e2, e3⟩ := Value.slice.inj e0
                    subst e1 e3
                    clear e2 e0
                    obtain ⟨b, o, rfl, hb, hbc⟩ := h4 (by rintro h0; rw [h0] at hlt2; simp at hlt2)
                    have hcell : wr.cell? ⟨b, o + ii, none⟩ = some (.int .u8 (q.toNat : Int)) := (HBX.out.cell (p := ⟨b, _, none⟩) (by show b < _; omega)).trans (hbc ii q hLq)
                    have hnx : ii + 1 - (kk + 1) = ii - (kk + 1) + 1 := by omega
                    have htk : T.take (ii + 1 - (kk + 1)) = T.take (ii - (kk + 1)) ++ [q] := by rw [hnx, List.take_add_one, hTq]; rfl
                    have HTK := Lib.hid htk
                    have HTQ := Lib.hid hTq
                    have PL := fun W => place_any l32 q W (by decide)
                    obtain ⟨pq, hpq⟩ : ∃ pq, pq = posB l32 q := ⟨_, rfl⟩
                    have hprng := posB_range l32 q
                    rw [← hpq] at hprng
                    simp only [← hpq] at PL
                    have PL := Lib.hid PL
                    have h32s : (l32.size : Int) = 32 := rfl
                    have HPQ := Lib.hid hpq
                    clear hTq hLq hbc h4 hnx htk hpq
                    by_cases hneg : pq < 0
                    · have hkf : knownB q = false := by unfold knownB; rw [← HPQ.out]; exact decide_eq_false (by omega)
                      have HR := Lib.hid (HFM.out (by rw [HSP.out, ← HT.out]; exact List.all_eq_false.2 ⟨q, List.mem_of_getElem? HTQ.out, by rw [hkf]; simp⟩))
                      have dn : decide (pq < 0) = true := decide_eq_true hneg
                      clear hneg hkf hprng
                      go_wp2_with fail
                      refine (PL.out _).mono ?_
                      rintro e w5 ⟨rfl, rfl⟩
                      go_wp2_with fail
                      (try simp only [Exit.inBlock, Exit.then]); refine bodyPost_ret (results_tmp4 rfl _ _ _) rfl ?_
                      exact ⟨.slice none 0 0, by rw [HR.out]; rfl, by rw [HR.out]; exact Byt.nil _ _, hbel.trans (HBX.out.mono hbsz)⟩
                    · have dn : decide (pq < 0) = false := decide_eq_false hneg
                      have hw : IntKind.u8.wrap pq = pq := by rw [IntKind.wrap_u8]; omega
                      have hkq : knownB q = true := by unfold knownB; rw [← HPQ.out]; exact decide_eq_true (by omega)
                      obtain ⟨D, hD⟩ : ∃ D, D = placesB l32 (T.take (ii - (kk + 1))) := ⟨_, rfl⟩
                      have hDl : D.length ≤ 90 := by rw [hD, placesB_length, List.length_take]; omega
                      have hod := HOD.out
                      rw [← hD] at hod
                      obtain ⟨Ad, cd, hdv⟩ := hod.form
                      subst hdv
                      have hsz2 := HBX.out.size
                      have HOA0 := Lib.hid hod
                      have HM := fun W => Lib.hid (Byt.made W 5 [.int .u8 pq] [b8 pq] (by rw [List.map_cons, List.map_nil, bv_b8_of (by omega) (by omega)]) (by unfold maxLen; simp))
                      have hpl : placesB l32 (T.take (ii + 1 - (kk + 1))) = D ++ [b8 pq] := by rw [HTK.out, hD]; unfold placesB; rw [List.map_append, HPQ.out]; rfl
                      have hka : ∀ c ∈ T.take (ii + 1 - (kk + 1)), knownB c = true := fun c hc => by
                        rw [HTK.out] at hc
                        rcases List.mem_append.1 hc with h5 | h5
                        · exact HAK.out c h5
                        · rw [List.mem_singleton.1 h5]; exact hkq
                      have HPL := Lib.hid hpl
                      have HKA := Lib.hid hka
                      clear hneg hkq hD hod hpl hka HOD HAK
                      go_wp2_with fail
                      refine (PL.out _).mono ?_
                      rintro e w5 ⟨rfl, rfl⟩
                      go_wp2_with (at_builtin; refine wpList_append_bytes rfl (.tmp 97) (.tmp 100) 23 rfl wr0.heap.size 5 i0 slice_u8 hi hz0 hz1 hz2 _ D.length (D.map bv) rfl (World.ownsRow.alloc HOA0.out (.cells #[.int .u8 pq] 5)) (wr.heap.size + 1) _ [b8 pq] rfl (HM wr).out (by simp; omega) (by simp; omega) ?_; intro v6 w6 hown6 hg6 hat6; have HO6 := Lib.hid (own_b (ys := D) (zs := [b8 pq]) hown6 rfl); have HB6 := Lib.hid ((HBX.out.alloc hsz2 _).grown hg6 (by simp; omega) (fun j hj => (World.ownsRow.lt (World.ownsRow.alloc HOA0.out (.cells #[.int .u8 pq] 5)) j hj).1)); clear hown6 hg6 hat6)
                      exact ⟨⟨ii + 1, by omega, by omega, by go_num, Lib.hid (by rw [HPL.out]; exact HO6.out), HKA, HB6⟩, by simp [intOf]; omega⟩
                · as_aux_lemma =>
                    have dlt : decide ((ii : Int) < (Lw.length : Int)) = false := decide_eq_false (by omega)
                    have hiiL : ii = Lw.length := by omega
                    have hTall : T.take (ii - (kk + 1)) = T := List.take_of_length_le (by have := HTLL.out; have := HLL.out; omega)
                    have hod := HOD.out
                    have hak := HAK.out
                    rw [hTall] at hod hak
                    have hkn : T.all knownB = true := List.all_eq_true.2 hak
                    have hrs := HSM.out (by rw [HSP.out, ← HT.out]; exact hkn)
                    obtain ⟨V, hV⟩ : ∃ V, V = valsS cs := ⟨_, rfl⟩
                    have hVT : V = placesB l32 T := by rw [hV]; unfold valsS; rw [← HT.out]
                    obtain ⟨hd, hhd⟩ : ∃ hd, hd = headS cs := ⟨_, rfl⟩
                    rw [← hVT] at hod
                    rw [← hV, ← hhd] at hrs
                    have hVl : V.length = T.length := by rw [hVT, placesB_length]
                    have hV90 : V.length ≤ 90 := by have := HTLL.out; omega
                    have hhd2 : hd = Lw.take kk := by rw [hhd]; exact HHEAD.out
                    obtain ⟨Ad, cd, hdv⟩ := hod.form
                    subst hdv
                    obtain ⟨nv, hnv⟩ : ∃ nv, nv = V.length := ⟨_, rfl⟩
                    obtain ⟨np, hnp⟩ : ∃ np, nv = np + 6 := ⟨nv - 6, by omega⟩
                    have hbyV : Byt wr wr.heap.size (.slice Ad V.length cd) V := Byt.of_own hod
                    have hcapV := hbyV.cap
                    have hbyV2 := hbyV.take_ (k := np) (by omega)
                    have hVt : V.take np = V.take (V.length - 6) := by congr 1; omega
                    have hsz0 := HBX.out.size
                    have hbyH : Byt wr wr0.heap.size (.slice As kk c9) hd := by
                      rw [hhd2]
                      exact (HBL.out.take_ (k := kk) (by have := HKL.out; omega)).below HBX.out
                    have hhl : hd.length ≤ 90 := by rw [hhd2, List.length_take]; omega
                    obtain ⟨Hs, hHs⟩ : ∃ Hs : ByteArray, Hs = ⟨hd.toArray⟩ := ⟨_, rfl⟩
                    have hHsz : Hs.size ≤ 90 := by rw [hHs]; show hd.toArray.size ≤ 90; rw [List.size_toArray]; exact hhl
                    have hHd : Hs.data.toList = hd := by rw [hHs]
                    have rst := run_string_of (P := Tryd.prog) wr 23 9 5 slice_u8 Tryd.underlying5 Tryd.underlying9 _ _ _ hbyH
                    rw [← hHs] at rst
                    have r30 := fun W => run_to As Lw.length c9 kk (by have := HKL.out; omega) (by have := HKL.out; omega) W
                    have S := rsum_any wr.heap.size Hs _ V wr hbyV (Nat.le_refl _) (by omega) (by omega)
                    rw [hHd] at S
                    obtain ⟨c0, hc0⟩ : ∃ c0, c0 = sumB hd V := ⟨_, rfl⟩
                    rw [← hc0] at S
                    have HS := Lib.hid S
                    have HC0 := Lib.hid hc0
                    have HRS := Lib.hid hrs
                    have HHS2 := Lib.hid hHs
                    have HBH := Lib.hid hbyH
                    have HBV := Lib.hid hbyV
                    have HBV2 := Lib.hid hbyV2
                    have HVT2 := Lib.hid hVt
                    have HNV := Lib.hid hnv
                    have HNP := Lib.hid hnp
                    clear hTall hod hak hkn hrs hV hVT hhd hVl hhd2 hbyV hbyV2 hVt hbyH hhl hHs hHd S hc0 hnv hnp HOD HAK hiiL
                    go_wp2_with fail
                    refine HS.out.mono ?_
                    rintro e w7 ⟨rfl, hb7⟩
                    have HB7 := Lib.hid hb7
                    have hnv6 : IntKind.i64.wrap ((nv : Int) - 6) = (np : Int) := by rw [IntWalk.i64_in _ (by have := HNP.out; have := HNV.out; omega)]; have := HNP.out; omega
                    have hwn : IntKind.i64.wrap ((V.length : Int) - 6) = (np : Int) := by rw [IntWalk.i64_in _ (by omega)]; have := HNP.out; have := HNV.out; omega
                    have r33 := fun W => run_to Ad V.length cd np (by have := HNP.out; have := HNV.out; omega) (by have := HNP.out; have := HNV.out; omega) W
                    clear hb7 rst
                    by_cases h1 : c0 = 1
                    · have n1 : ((c0 : Int) != 1) = false := by rw [h1]; rfl
                      have e1 : ((c0 : Int) == 1) = true := by rw [h1]; rfl
                      have HR : Hid (r = ⟨0, hd, V.take (V.length - 6), false⟩) := Lib.hid (by rw [HRS.out]; exact sumR_lo (by rw [← HC0.out]; exact h1))
                      clear h1
                      go_wp2_with fail
                      refine wp_region_held_drew (S := (fun w' => Byt w' wr0.heap.size (.slice As kk c9) hd)) (by kernel_rfl) ?_ (fun hHeld => ?_)
                      · exact byt_drewN (HBH.out.below (HB7.out.mono hsz0)) 1
                      refine wpAnyH_take (i := 0) (oi := { dst := some 114, op := Go.Op.move (Go.Operand.tmp 9), type := 23, pos := "ref.go:288", after := #[], guard := none }) (v := ?av0) rfl (by kernel_rfl) (by kernel_rfl) (by kernel_rfl) (fun _ _ _ h => h) (Or.inl ⟨by rfl, ?ay0⟩) (by assumption) ?ar0
                      case ay0 => (intro w hSw; (try dsimp only at hSw); go_simp; try (with_reducible rfl))
                      case ar0 =>
                      try simp only [Act.put, List.setIfInBounds_toArray, List.set_cons_zero, List.set_cons_succ]
                      refine wpAnyH_take (i := 1) (oi := { dst := some 115, op := Go.Op.move (Go.Operand.tmp 8), type := 3, pos := "ref.go:288", after := #[], guard := none }) (v := ?av1) rfl (by kernel_rfl) (by kernel_rfl) (by kernel_rfl) (fun _ _ _ h => h) (Or.inl ⟨by rfl, ?ay1⟩) (by assumption) ?ar1
                      case ay1 => (intro w hSw; (try dsimp only at hSw); go_simp; try (with_reducible rfl))
                      case ar1 =>
                      try simp only [Act.put, List.setIfInBounds_toArray, List.set_cons_zero, List.set_cons_succ]
                      refine wpAnyH_take (i := 2) (oi := { dst := some 116, op := Go.Op.slice 23 (Go.Operand.tmp 114) none (some (Go.Operand.tmp 115)) none, type := 23, pos := "ref.go:288", after := #[{ on := 0, ground := Go.Ground.data }, { on := 1, ground := Go.Ground.data }], guard := none }) (v := (.slice As kk c9)) rfl (by kernel_rfl) (by kernel_rfl) (by kernel_rfl) (fun _ _ _ h => h) (Or.inl ⟨by rfl, ?ay2⟩) (by assumption) ?ar2
                      case ay2 => (intro w hSw; (try dsimp only at hSw); go_simp; try (with_reducible rfl))
                      case ar2 =>
                      try simp only [Act.put, List.setIfInBounds_toArray, List.set_cons_zero, List.set_cons_succ]
                      refine wpAnyH_take (i := 3) (oi := { dst := some 117, op := Go.Op.convert 23 9 (Go.Operand.tmp 116), type := 9, pos := "ref.go:288", after := #[{ on := 2, ground := Go.Ground.data }], guard := none }) (v := (.string Hs)) rfl (by kernel_rfl) (by kernel_rfl) (by kernel_rfl) (fun _ _ _ h => h) (Or.inl ⟨by rfl, ?ay3⟩) (by assumption) ?ar3
                      case ay3 => (intro w hSw; (try dsimp only at hSw); go_simp; try (rw [run_string_of (P := Tryd.prog) _ 23 9 5 slice_u8 Tryd.underlying5 Tryd.underlying9 _ _ _ hSw, HHS2.out]; rfl))
                      case ar3 =>
                      try simp only [Act.put, List.setIfInBounds_toArray, List.set_cons_zero, List.set_cons_succ]
                      refine wpAnyH_take (i := 4) (oi := { dst := some 118, op := Go.Op.move (Go.Operand.tmp 12), type := 23, pos := "ref.go:288", after := #[], guard := none }) (v := ?av4) rfl (by kernel_rfl) (by kernel_rfl) (by kernel_rfl) (fun _ _ _ h => h) (Or.inl ⟨by rfl, ?ay4⟩) (by assumption) ?ar4
                      case ay4 => (intro w hSw; (try dsimp only at hSw); go_simp; try (with_reducible rfl))
                      case ar4 =>
                      try simp only [Act.put, List.setIfInBounds_toArray, List.set_cons_zero, List.set_cons_succ]
                      refine wpAnyH_take (i := 5) (oi := { dst := some 119, op := Go.Op.move (Go.Operand.tmp 12), type := 23, pos := "ref.go:288", after := #[], guard := none }) (v := ?av5) rfl (by kernel_rfl) (by kernel_rfl) (by kernel_rfl) (fun _ _ _ h => h) (Or.inl ⟨by rfl, ?ay5⟩) (by assumption) ?ar5
                      case ay5 => (intro w hSw; (try dsimp only at hSw); go_simp; try (with_reducible rfl))
                      case ar5 =>
                      try simp only [Act.put, List.setIfInBounds_toArray, List.set_cons_zero, List.set_cons_succ]
                      refine wpAnyH_take (i := 6) (oi := { dst := some 120, op := Go.Op.call { callee := Go.Callee.builtin Go.Builtin.len, args := #[Go.Operand.tmp 119], argTypes := #[23] }, type := 3, pos := "ref.go:288", after := #[{ on := 5, ground := Go.Ground.data }], guard := none }) (v := ?av6) rfl (by kernel_rfl) (by kernel_rfl) (by kernel_rfl) (fun _ _ _ h => h) (Or.inl ⟨by rfl, ?ay6⟩) (by assumption) ?ar6
                      case ay6 => (intro w hSw; (try dsimp only at hSw); go_simp; try (with_reducible rfl))
                      case ar6 =>
                      try simp only [Act.put, List.setIfInBounds_toArray, List.set_cons_zero, List.set_cons_succ]
                      refine wpAnyH_take (i := 7) (oi := { dst := some 121, op := Go.Op.binOp Go.BinOp.sub 3 (Go.Operand.tmp 120) (Go.Operand.const (Go.Value.int Go.IntKind.i64 6)) 3, type := 3, pos := "ref.go:288", after := #[{ on := 6, ground := Go.Ground.data }], guard := none }) (v := ?av7) rfl (by kernel_rfl) (by kernel_rfl) (by kernel_rfl) (fun _ _ _ h => h) (Or.inl ⟨by rfl, ?ay7⟩) (by assumption) ?ar7
                      case ay7 => (intro w hSw; (try dsimp only at hSw); go_simp; try (with_reducible rfl))
                      case ar7 =>
                      try simp only [Act.put, List.setIfInBounds_toArray, List.set_cons_zero, List.set_cons_succ]
                      refine wpAnyH_take (i := 8) (oi := { dst := some 122, op := Go.Op.slice 23 (Go.Operand.tmp 118) none (some (Go.Operand.tmp 121)) none, type := 23, pos := "ref.go:288", after := #[{ on := 4, ground := Go.Ground.data }, { on := 7, ground := Go.Ground.data }], guard := none }) (v := (.slice Ad np cd)) rfl (by kernel_rfl) (by kernel_rfl) (by kernel_rfl) (fun _ _ _ h => h) (Or.inl ⟨by rfl, ?ay8⟩) (by assumption) ?ar8
                      case ay8 => (intro w hSw; (try dsimp only at hSw); go_simp; try (with_reducible rfl))
                      case ar8 =>
                      try simp only [Act.put, List.setIfInBounds_toArray, List.set_cons_zero, List.set_cons_succ]
                      refine wpAnyH_take (i := 9) (oi := { dst := some 123, op := Go.Op.move (Go.Operand.tmp 15), type := 52, pos := "ref.go:288", after := #[{ on := 12, ground := Go.Ground.gcOnly Go.Departure.lateStores }], guard := none }) (v := ?av9) rfl (by kernel_rfl) (by kernel_rfl) (by kernel_rfl) (fun _ _ _ h => h) (Or.inl ⟨by rfl, ?ay9⟩) (by assumption) ?ar9
                      case ay9 => (intro w hSw; (try dsimp only at hSw); go_simp; try (with_reducible rfl))
                      case ar9 =>
                      try simp only [Act.put, List.setIfInBounds_toArray, List.set_cons_zero, List.set_cons_succ]
                      refine wpAnyH_take (i := 10) (oi := { dst := some 124, op := Go.Op.binOp Go.BinOp.neq 52 (Go.Operand.tmp 123) (Go.Operand.const (Go.Value.int Go.IntKind.u64 1)) 52, type := 4, pos := "ref.go:288", after := #[{ on := 9, ground := Go.Ground.data }, { on := 12, ground := Go.Ground.gcOnly Go.Departure.lateStores }], guard := none }) (v := ?av10) rfl (by kernel_rfl) (by kernel_rfl) (by kernel_rfl) (fun _ _ _ h => h) (Or.inl ⟨by rfl, ?ay10⟩) (by assumption) ?ar10
                      case ay10 => (intro w hSw; (try dsimp only at hSw); go_simp; try (with_reducible rfl))
                      case ar10 =>
                      try simp only [Act.put, List.setIfInBounds_toArray, List.set_cons_zero, List.set_cons_succ]
                      refine wpAnyH_take (i := 11) (oi := { dst := some 2, op := Go.Op.assign (Go.Operand.tmp 117), type := 9, pos := "ref.go:288", after := #[{ on := 3, ground := Go.Ground.data }, { on := 0, ground := Go.Ground.phase }, { on := 1, ground := Go.Ground.phase }, { on := 2, ground := Go.Ground.phase }, { on := 3, ground := Go.Ground.phase }, { on := 4, ground := Go.Ground.textOnly Go.Departure.lateStores }, { on := 5, ground := Go.Ground.textOnly Go.Departure.lateStores }, { on := 6, ground := Go.Ground.textOnly Go.Departure.lateStoresUnsure }, { on := 7, ground := Go.Ground.textOnly Go.Departure.lateStores }, { on := 8, ground := Go.Ground.textOnly Go.Departure.lateStoresUnsure }, { on := 9, ground := Go.Ground.textOnly Go.Departure.lateStores }, { on := 10, ground := Go.Ground.textOnly Go.Departure.lateStores }], guard := none }) (v := ?av11) rfl (by kernel_rfl) (by kernel_rfl) (by kernel_rfl) (fun _ _ _ h => h) (Or.inl ⟨by rfl, ?ay11⟩) (by assumption) ?ar11
                      case ay11 => (intro w hSw; (try dsimp only at hSw); go_simp; try (with_reducible rfl))
                      case ar11 =>
                      try simp only [Act.put, List.setIfInBounds_toArray, List.set_cons_zero, List.set_cons_succ]
                      refine wpAnyH_take (i := 12) (oi := { dst := some 3, op := Go.Op.assign (Go.Operand.tmp 122), type := 23, pos := "ref.go:288", after := #[{ on := 8, ground := Go.Ground.data }, { on := 11, ground := Go.Ground.chain }, { on := 0, ground := Go.Ground.phase }, { on := 1, ground := Go.Ground.phase }, { on := 2, ground := Go.Ground.phase }, { on := 3, ground := Go.Ground.phase }, { on := 4, ground := Go.Ground.phase }, { on := 5, ground := Go.Ground.phase }, { on := 6, ground := Go.Ground.phase }, { on := 7, ground := Go.Ground.phase }, { on := 8, ground := Go.Ground.phase }, { on := 9, ground := Go.Ground.textOnly Go.Departure.lateStores }, { on := 10, ground := Go.Ground.textOnly Go.Departure.lateStores }, { on := 11, ground := Go.Ground.phase }], guard := none }) (v := ?av12) rfl (by kernel_rfl) (by kernel_rfl) (by kernel_rfl) (fun _ _ _ h => h) (Or.inl ⟨by rfl, ?ay12⟩) (by assumption) ?ar12
                      case ay12 => (intro w hSw; (try dsimp only at hSw); go_simp; try (with_reducible rfl))
                      case ar12 =>
                      try simp only [Act.put, List.setIfInBounds_toArray, List.set_cons_zero, List.set_cons_succ]
                      refine wpAnyH_take (i := 13) (oi := { dst := some 4, op := Go.Op.assign (Go.Operand.tmp 124), type := 4, pos := "ref.go:288", after := #[{ on := 10, ground := Go.Ground.data }, { on := 12, ground := Go.Ground.chain }, { on := 0, ground := Go.Ground.phase }, { on := 1, ground := Go.Ground.phase }, { on := 2, ground := Go.Ground.phase }, { on := 3, ground := Go.Ground.phase }, { on := 4, ground := Go.Ground.phase }, { on := 5, ground := Go.Ground.phase }, { on := 6, ground := Go.Ground.phase }, { on := 7, ground := Go.Ground.phase }, { on := 8, ground := Go.Ground.phase }, { on := 9, ground := Go.Ground.phase }, { on := 10, ground := Go.Ground.phase }, { on := 11, ground := Go.Ground.phase }, { on := 12, ground := Go.Ground.phase }], guard := none }) (v := ?av13) rfl (by kernel_rfl) (by kernel_rfl) (by kernel_rfl) (fun _ _ _ h => h) (Or.inl ⟨by rfl, ?ay13⟩) (by assumption) ?ar13
                      case ay13 => (intro w hSw; (try dsimp only at hSw); go_simp; try (with_reducible rfl))
                      case ar13 =>
                      try simp only [Act.put, List.setIfInBounds_toArray, List.set_cons_zero, List.set_cons_succ]
                      refine wpAnyH_take (i := 14) (oi := { dst := some 5, op := Go.Op.assign (Go.Operand.const (Go.Value.int Go.IntKind.i64 0)), type := 3, pos := "ref.go:288", after := #[{ on := 13, ground := Go.Ground.chain }, { on := 0, ground := Go.Ground.phase }, { on := 1, ground := Go.Ground.phase }, { on := 2, ground := Go.Ground.phase }, { on := 3, ground := Go.Ground.phase }, { on := 4, ground := Go.Ground.phase }, { on := 5, ground := Go.Ground.phase }, { on := 6, ground := Go.Ground.phase }, { on := 7, ground := Go.Ground.phase }, { on := 8, ground := Go.Ground.phase }, { on := 9, ground := Go.Ground.phase }, { on := 10, ground := Go.Ground.phase }, { on := 11, ground := Go.Ground.phase }, { on := 12, ground := Go.Ground.phase }, { on := 13, ground := Go.Ground.phase }], guard := none }) (v := ?av14) rfl (by kernel_rfl) (by kernel_rfl) (by kernel_rfl) (fun _ _ _ h => h) (Or.inl ⟨by rfl, ?ay14⟩) (by assumption) ?ar14
                      case ay14 => (intro w hSw; (try dsimp only at hSw); go_simp; try (with_reducible rfl))
                      case ar14 =>
                      try simp only [Act.put, List.setIfInBounds_toArray, List.set_cons_zero, List.set_cons_succ]
                      refine wpAnyH_done (by kernel_rfl) ?_ _
                      go_wp2_with fail
                      (try simp only [Exit.inBlock, Exit.then]); refine bodyPost_ret (results_tmp4 rfl _ _ _) rfl ?_
                      refine ⟨.slice Ad np cd, by rw [HR.out, ← HHS2.out]; rfl, ?_, (hbel.trans (HBX.out.mono hbsz)).trans ((HB7.out.trans (show Below wr.heap.size w7 w7.drew from ⟨rfl, rfl, rfl, Nat.le_refl _, fun _ _ => rfl⟩)).mono (Nat.le_trans hbsz hsz0))⟩
                      rw [HR.out]
                      show Byt _ _ _ (V.take (V.length - 6))
                      rw [← HVT2.out]
                      exact (byt_drewN (HBV2.out.below HB7.out) 1).more HB7.out.size
                    · have n1 : ((c0 : Int) != 1) = true := by rw [bne_iff_ne]; omega
                      have e1 : ((c0 : Int) == 1) = false := by rw [beq_eq_false_iff_ne]; omega
                      have hl0 : ¬ sumB hd V = lastX false := by rw [← HC0.out]; exact h1
                      by_cases h2 : c0 = 734539939
                      · have n2 : ((c0 : Int) != 734539939) = false := by rw [h2]; rfl
                        have e2 : ((c0 : Int) == 734539939) = true := by rw [h2]; rfl
                        have HR : Hid (r = ⟨0, hd, V.take (V.length - 6), true⟩) := Lib.hid (by rw [HRS.out]; exact sumR_hi hl0 (by rw [← HC0.out]; exact h2))
                        clear h1 h2 hl0
                        go_wp2_with fail
                        refine wp_region_held_drew (S := (fun w' => Byt w' wr0.heap.size (.slice As kk c9) hd)) (by kernel_rfl) ?_ (fun hHeld => ?_)
                        · exact byt_drewN (HBH.out.below (HB7.out.mono hsz0)) 1
                        refine wpAnyH_take (i := 0) (oi := { dst := some 114, op := Go.Op.move (Go.Operand.tmp 9), type := 23, pos := "ref.go:288", after := #[], guard := none }) (v := ?bv0) rfl (by kernel_rfl) (by kernel_rfl) (by kernel_rfl) (fun _ _ _ h => h) (Or.inl ⟨by rfl, ?by0⟩) (by assumption) ?br0
                        case by0 => (intro w hSw; (try dsimp only at hSw); go_simp; try (with_reducible rfl))
                        case br0 =>
                        try simp only [Act.put, List.setIfInBounds_toArray, List.set_cons_zero, List.set_cons_succ]
                        refine wpAnyH_take (i := 1) (oi := { dst := some 115, op := Go.Op.move (Go.Operand.tmp 8), type := 3, pos := "ref.go:288", after := #[], guard := none }) (v := ?bv1) rfl (by kernel_rfl) (by kernel_rfl) (by kernel_rfl) (fun _ _ _ h => h) (Or.inl ⟨by rfl, ?by1⟩) (by assumption) ?br1
                        case by1 => (intro w hSw; (try dsimp only at hSw); go_simp; try (with_reducible rfl))
                        case br1 =>
                        try simp only [Act.put, List.setIfInBounds_toArray, List.set_cons_zero, List.set_cons_succ]
                        refine wpAnyH_take (i := 2) (oi := { dst := some 116, op := Go.Op.slice 23 (Go.Operand.tmp 114) none (some (Go.Operand.tmp 115)) none, type := 23, pos := "ref.go:288", after := #[{ on := 0, ground := Go.Ground.data }, { on := 1, ground := Go.Ground.data }], guard := none }) (v := (.slice As kk c9)) rfl (by kernel_rfl) (by kernel_rfl) (by kernel_rfl) (fun _ _ _ h => h) (Or.inl ⟨by rfl, ?by2⟩) (by assumption) ?br2
                        case by2 => (intro w hSw; (try dsimp only at hSw); go_simp; try (with_reducible rfl))
                        case br2 =>
                        try simp only [Act.put, List.setIfInBounds_toArray, List.set_cons_zero, List.set_cons_succ]
                        refine wpAnyH_take (i := 3) (oi := { dst := some 117, op := Go.Op.convert 23 9 (Go.Operand.tmp 116), type := 9, pos := "ref.go:288", after := #[{ on := 2, ground := Go.Ground.data }], guard := none }) (v := (.string Hs)) rfl (by kernel_rfl) (by kernel_rfl) (by kernel_rfl) (fun _ _ _ h => h) (Or.inl ⟨by rfl, ?by3⟩) (by assumption) ?br3
                        case by3 => (intro w hSw; (try dsimp only at hSw); go_simp; try (rw [run_string_of (P := Tryd.prog) _ 23 9 5 slice_u8 Tryd.underlying5 Tryd.underlying9 _ _ _ hSw, HHS2.out]; rfl))
                        case br3 =>
                        try simp only [Act.put, List.setIfInBounds_toArray, List.set_cons_zero, List.set_cons_succ]
                        refine wpAnyH_take (i := 4) (oi := { dst := some 118, op := Go.Op.move (Go.Operand.tmp 12), type := 23, pos := "ref.go:288", after := #[], guard := none }) (v := ?bv4) rfl (by kernel_rfl) (by kernel_rfl) (by kernel_rfl) (fun _ _ _ h => h) (Or.inl ⟨by rfl, ?by4⟩) (by assumption) ?br4
                        case by4 => (intro w hSw; (try dsimp only at hSw); go_simp; try (with_reducible rfl))
                        case br4 =>
                        try simp only [Act.put, List.setIfInBounds_toArray, List.set_cons_zero, List.set_cons_succ]
                        refine wpAnyH_take (i := 5) (oi := { dst := some 119, op := Go.Op.move (Go.Operand.tmp 12), type := 23, pos := "ref.go:288", after := #[], guard := none }) (v := ?bv5) rfl (by kernel_rfl) (by kernel_rfl) (by kernel_rfl) (fun _ _ _ h => h) (Or.inl ⟨by rfl, ?by5⟩) (by assumption) ?br5
                        case by5 => (intro w hSw; (try dsimp only at hSw); go_simp; try (with_reducible rfl))
                        case br5 =>
                        try simp only [Act.put, List.setIfInBounds_toArray, List.set_cons_zero, List.set_cons_succ]
                        refine wpAnyH_take (i := 6) (oi := { dst := some 120, op := Go.Op.call { callee := Go.Callee.builtin Go.Builtin.len, args := #[Go.Operand.tmp 119], argTypes := #[23] }, type := 3, pos := "ref.go:288", after := #[{ on := 5, ground := Go.Ground.data }], guard := none }) (v := ?bv6) rfl (by kernel_rfl) (by kernel_rfl) (by kernel_rfl) (fun _ _ _ h => h) (Or.inl ⟨by rfl, ?by6⟩) (by assumption) ?br6
                        case by6 => (intro w hSw; (try dsimp only at hSw); go_simp; try (with_reducible rfl))
                        case br6 =>
                        try simp only [Act.put, List.setIfInBounds_toArray, List.set_cons_zero, List.set_cons_succ]
                        refine wpAnyH_take (i := 7) (oi := { dst := some 121, op := Go.Op.binOp Go.BinOp.sub 3 (Go.Operand.tmp 120) (Go.Operand.const (Go.Value.int Go.IntKind.i64 6)) 3, type := 3, pos := "ref.go:288", after := #[{ on := 6, ground := Go.Ground.data }], guard := none }) (v := ?bv7) rfl (by kernel_rfl) (by kernel_rfl) (by kernel_rfl) (fun _ _ _ h => h) (Or.inl ⟨by rfl, ?by7⟩) (by assumption) ?br7
                        case by7 => (intro w hSw; (try dsimp only at hSw); go_simp; try (with_reducible rfl))
                        case br7 =>
                        try simp only [Act.put, List.setIfInBounds_toArray, List.set_cons_zero, List.set_cons_succ]
                        refine wpAnyH_take (i := 8) (oi := { dst := some 122, op := Go.Op.slice 23 (Go.Operand.tmp 118) none (some (Go.Operand.tmp 121)) none, type := 23, pos := "ref.go:288", after := #[{ on := 4, ground := Go.Ground.data }, { on := 7, ground := Go.Ground.data }], guard := none }) (v := (.slice Ad np cd)) rfl (by kernel_rfl) (by kernel_rfl) (by kernel_rfl) (fun _ _ _ h => h) (Or.inl ⟨by rfl, ?by8⟩) (by assumption) ?br8
                        case by8 => (intro w hSw; (try dsimp only at hSw); go_simp; try (with_reducible rfl))
                        case br8 =>
                        try simp only [Act.put, List.setIfInBounds_toArray, List.set_cons_zero, List.set_cons_succ]
                        refine wpAnyH_take (i := 9) (oi := { dst := some 123, op := Go.Op.move (Go.Operand.tmp 15), type := 52, pos := "ref.go:288", after := #[{ on := 12, ground := Go.Ground.gcOnly Go.Departure.lateStores }], guard := none }) (v := ?bv9) rfl (by kernel_rfl) (by kernel_rfl) (by kernel_rfl) (fun _ _ _ h => h) (Or.inl ⟨by rfl, ?by9⟩) (by assumption) ?br9
                        case by9 => (intro w hSw; (try dsimp only at hSw); go_simp; try (with_reducible rfl))
                        case br9 =>
                        try simp only [Act.put, List.setIfInBounds_toArray, List.set_cons_zero, List.set_cons_succ]
                        refine wpAnyH_take (i := 10) (oi := { dst := some 124, op := Go.Op.binOp Go.BinOp.neq 52 (Go.Operand.tmp 123) (Go.Operand.const (Go.Value.int Go.IntKind.u64 1)) 52, type := 4, pos := "ref.go:288", after := #[{ on := 9, ground := Go.Ground.data }, { on := 12, ground := Go.Ground.gcOnly Go.Departure.lateStores }], guard := none }) (v := ?bv10) rfl (by kernel_rfl) (by kernel_rfl) (by kernel_rfl) (fun _ _ _ h => h) (Or.inl ⟨by rfl, ?by10⟩) (by assumption) ?br10
                        case by10 => (intro w hSw; (try dsimp only at hSw); go_simp; try (with_reducible rfl))
                        case br10 =>
                        try simp only [Act.put, List.setIfInBounds_toArray, List.set_cons_zero, List.set_cons_succ]
                        refine wpAnyH_take (i := 11) (oi := { dst := some 2, op := Go.Op.assign (Go.Operand.tmp 117), type := 9, pos := "ref.go:288", after := #[{ on := 3, ground := Go.Ground.data }, { on := 0, ground := Go.Ground.phase }, { on := 1, ground := Go.Ground.phase }, { on := 2, ground := Go.Ground.phase }, { on := 3, ground := Go.Ground.phase }, { on := 4, ground := Go.Ground.textOnly Go.Departure.lateStores }, { on := 5, ground := Go.Ground.textOnly Go.Departure.lateStores }, { on := 6, ground := Go.Ground.textOnly Go.Departure.lateStoresUnsure }, { on := 7, ground := Go.Ground.textOnly Go.Departure.lateStores }, { on := 8, ground := Go.Ground.textOnly Go.Departure.lateStoresUnsure }, { on := 9, ground := Go.Ground.textOnly Go.Departure.lateStores }, { on := 10, ground := Go.Ground.textOnly Go.Departure.lateStores }], guard := none }) (v := ?bv11) rfl (by kernel_rfl) (by kernel_rfl) (by kernel_rfl) (fun _ _ _ h => h) (Or.inl ⟨by rfl, ?by11⟩) (by assumption) ?br11
                        case by11 => (intro w hSw; (try dsimp only at hSw); go_simp; try (with_reducible rfl))
                        case br11 =>
                        try simp only [Act.put, List.setIfInBounds_toArray, List.set_cons_zero, List.set_cons_succ]
                        refine wpAnyH_take (i := 12) (oi := { dst := some 3, op := Go.Op.assign (Go.Operand.tmp 122), type := 23, pos := "ref.go:288", after := #[{ on := 8, ground := Go.Ground.data }, { on := 11, ground := Go.Ground.chain }, { on := 0, ground := Go.Ground.phase }, { on := 1, ground := Go.Ground.phase }, { on := 2, ground := Go.Ground.phase }, { on := 3, ground := Go.Ground.phase }, { on := 4, ground := Go.Ground.phase }, { on := 5, ground := Go.Ground.phase }, { on := 6, ground := Go.Ground.phase }, { on := 7, ground := Go.Ground.phase }, { on := 8, ground := Go.Ground.phase }, { on := 9, ground := Go.Ground.textOnly Go.Departure.lateStores }, { on := 10, ground := Go.Ground.textOnly Go.Departure.lateStores }, { on := 11, ground := Go.Ground.phase }], guard := none }) (v := ?bv12) rfl (by kernel_rfl) (by kernel_rfl) (by kernel_rfl) (fun _ _ _ h => h) (Or.inl ⟨by rfl, ?by12⟩) (by assumption) ?br12
                        case by12 => (intro w hSw; (try dsimp only at hSw); go_simp; try (with_reducible rfl))
                        case br12 =>
                        try simp only [Act.put, List.setIfInBounds_toArray, List.set_cons_zero, List.set_cons_succ]
                        refine wpAnyH_take (i := 13) (oi := { dst := some 4, op := Go.Op.assign (Go.Operand.tmp 124), type := 4, pos := "ref.go:288", after := #[{ on := 10, ground := Go.Ground.data }, { on := 12, ground := Go.Ground.chain }, { on := 0, ground := Go.Ground.phase }, { on := 1, ground := Go.Ground.phase }, { on := 2, ground := Go.Ground.phase }, { on := 3, ground := Go.Ground.phase }, { on := 4, ground := Go.Ground.phase }, { on := 5, ground := Go.Ground.phase }, { on := 6, ground := Go.Ground.phase }, { on := 7, ground := Go.Ground.phase }, { on := 8, ground := Go.Ground.phase }, { on := 9, ground := Go.Ground.phase }, { on := 10, ground := Go.Ground.phase }, { on := 11, ground := Go.Ground.phase }, { on := 12, ground := Go.Ground.phase }], guard := none }) (v := ?bv13) rfl (by kernel_rfl) (by kernel_rfl) (by kernel_rfl) (fun _ _ _ h => h) (Or.inl ⟨by rfl, ?by13⟩) (by assumption) ?br13
                        case by13 => (intro w hSw; (try dsimp only at hSw); go_simp; try (with_reducible rfl))
                        case br13 =>
                        try simp only [Act.put, List.setIfInBounds_toArray, List.set_cons_zero, List.set_cons_succ]
                        refine wpAnyH_take (i := 14) (oi := { dst := some 5, op := Go.Op.assign (Go.Operand.const (Go.Value.int Go.IntKind.i64 0)), type := 3, pos := "ref.go:288", after := #[{ on := 13, ground := Go.Ground.chain }, { on := 0, ground := Go.Ground.phase }, { on := 1, ground := Go.Ground.phase }, { on := 2, ground := Go.Ground.phase }, { on := 3, ground := Go.Ground.phase }, { on := 4, ground := Go.Ground.phase }, { on := 5, ground := Go.Ground.phase }, { on := 6, ground := Go.Ground.phase }, { on := 7, ground := Go.Ground.phase }, { on := 8, ground := Go.Ground.phase }, { on := 9, ground := Go.Ground.phase }, { on := 10, ground := Go.Ground.phase }, { on := 11, ground := Go.Ground.phase }, { on := 12, ground := Go.Ground.phase }, { on := 13, ground := Go.Ground.phase }], guard := none }) (v := ?bv14) rfl (by kernel_rfl) (by kernel_rfl) (by kernel_rfl) (fun _ _ _ h => h) (Or.inl ⟨by rfl, ?by14⟩) (by assumption) ?br14
                        case by14 => (intro w hSw; (try dsimp only at hSw); go_simp; try (with_reducible rfl))
                        case br14 =>
                        try simp only [Act.put, List.setIfInBounds_toArray, List.set_cons_zero, List.set_cons_succ]
                        refine wpAnyH_done (by kernel_rfl) ?_ _
                        go_wp2_with fail
                        (try simp only [Exit.inBlock, Exit.then]); refine bodyPost_ret (results_tmp4 rfl _ _ _) rfl ?_
                        refine ⟨.slice Ad np cd, by rw [HR.out, ← HHS2.out]; rfl, ?_, (hbel.trans (HBX.out.mono hbsz)).trans ((HB7.out.trans (show Below wr.heap.size w7 w7.drew from ⟨rfl, rfl, rfl, Nat.le_refl _, fun _ _ => rfl⟩)).mono (Nat.le_trans hbsz hsz0))⟩
                        rw [HR.out]
                        show Byt _ _ _ (V.take (V.length - 6))
                        rw [← HVT2.out]
                        exact (byt_drewN (HBV2.out.below HB7.out) 1).more HB7.out.size
                      · have n2 : ((c0 : Int) != 734539939) = true := by rw [bne_iff_ne]; omega
                        have e2 : ((c0 : Int) == 734539939) = false := by rw [beq_eq_false_iff_ne]; omega
                        have HR : Hid (r = noR 5) := Lib.hid (by rw [HRS.out]; exact sumR_no hl0 (by rw [← HC0.out]; exact h2))
                        clear h1 h2 hl0
                        go_wp2_with fail
                        (try simp only [Exit.inBlock, Exit.then]); refine bodyPost_ret (results_tmp4 rfl _ _ _) rfl ?_
                        exact ⟨.slice none 0 0, by rw [HR.out]; rfl, by rw [HR.out]; exact Byt.nil _ _, (hbel.trans (HBX.out.mono hbsz)).trans (HB7.out.mono (Nat.le_trans hbsz hsz0))⟩
        | true =>
          cases sm with
          | false =>
            rw [Bool.and_false, Bool.not_false, Bool.true_and] at hsp
            by_cases hk1 : k < 1
            · have HR := Lib.hid (HFM.out (by rw [hsp, decide_eq_false (show ¬ (1 : Int) ≤ k by omega)]; rfl))
              have d1 : decide (k < 1) = true := decide_eq_true hk1
              clear hk1 hsp hk
              go_wp2_with fail
              (try simp only [Exit.inBlock, Exit.then]); refine bodyPost_ret (results_tmp4 rfl _ _ _) rfl ?_
              exact ⟨.slice none 0 0, by rw [HR.out]; rfl, by rw [HR.out]; exact Byt.nil _ _, hbel⟩
            · have d1 : decide (k < 1) = false := decide_eq_false hk1
              obtain ⟨kk, hkk⟩ : ∃ kk : Nat, k = kk := ⟨k.toNat, by omega⟩
              subst hkk
              have hkL : kk < Lw.length := by
                rcases oneAt_spec (lowS cs) with ⟨e, _⟩ | ⟨j, e, hj, _⟩
                · omega
                · have := (List.getElem?_eq_some_iff.1 hj).1
                  rw [hLw]
                  omega
              have htail : tailS cs = Lw.drop (kk + 1) := by unfold tailS; rw [← hk, Int.toNat_natCast, hLw]
              have hhead : headS cs = Lw.take kk := by unfold headS; rw [← hk, Int.toNat_natCast, hLw]
              have htl : (tailS cs).length = s.size - (kk + 1) := by rw [htail, List.length_drop, hLl]
              rw [decide_eq_true (show (1 : Int) ≤ (kk : Int) by omega), Bool.true_and] at hsp
              by_cases h7 : (s.size : Int) - (kk : Int) < 7
              · have HR := Lib.hid (HFM.out (by rw [hsp, decide_eq_false (by omega)]; rfl))
                have d7 : decide ((s.size : Int) - (kk : Int) < 7) = true := decide_eq_true h7
                clear h7 hsp hk htail hhead htl hk1
                go_wp2_with fail
                (try simp only [Exit.inBlock, Exit.then]); refine bodyPost_ret (results_tmp4 rfl _ _ _) rfl ?_
                exact ⟨.slice none 0 0, by rw [HR.out]; rfl, by rw [HR.out]; exact Byt.nil _ _, hbel⟩
              · have d7 : decide ((s.size : Int) - (kk : Int) < 7) = false := decide_eq_false h7
                rw [decide_eq_true (show 6 ≤ (tailS cs).length by omega), Bool.true_and] at hsp
                have HSP := Lib.hid hsp
                have HTAIL := Lib.hid htail
                have HHEAD := Lib.hid hhead
                have HTL := Lib.hid htl
                have hk90 : kk < 90 := by omega
                obtain ⟨T, hT⟩ : ∃ T, T = tailS cs := ⟨_, rfl⟩
                have hTl : T.length = s.size - (kk + 1) := by rw [hT]; exact htl
                have HT := Lib.hid hT
                have HTLL := Lib.hid hTl
                have hT6 : 6 ≤ T.length := by omega
                have HLW := Lib.hid hLw
                clear h7 hsp hk htail hhead htl hk1 hT hTl hLw
                have hbyL : Byt wr wr.heap.size (.slice As Lw.length c9) Lw := Byt.of_own HOL2.out
                have hcap := hbyL.cap
                have HBL := Lib.hid hbyL
                have HLL := Lib.hid hLl
                have HKL := Lib.hid hkL
                have hLn : Lw.length ≤ 90 := by omega
                obtain ⟨wr0, hwr0⟩ : ∃ x, x = wr := ⟨_, rfl⟩
                subst hwr0
                clear hbyL hLl hkL
                go_wp2_with fail
                go_loopw [13, 12] (fun j vv wx => ∃ ii : Nat, kk + 1 ≤ ii ∧ ii ≤ Lw.length ∧ j = .int .i64 (ii : Int) ∧ Hid (OwnB wx wr0.heap.size vv (placesB l32 (T.take (ii - (kk + 1))))) ∧ Hid (∀ c ∈ T.take (ii - (kk + 1)), knownB c = true) ∧ Hid (Below wr0.heap.size wr0 wx)) (fun j _ _ => Lw.length - (intOf j).toNat)
                case atStart => exact ⟨kk + 1, Nat.le_refl _, by have := HKL.out; omega, by go_num, Lib.hid (by rw [Nat.sub_self]; exact OwnB.nil _ _), Lib.hid (by rw [Nat.sub_self]; simp), Lib.hid (Below.refl _ _)⟩
                case round =>
                  obtain ⟨ii, hii1, hii2, rfl, HOD, HAK, HBX⟩ := hrel
                  by_cases hlt2 : ii < Lw.length
                  · as_aux_lemma =>
                      have dlt : decide ((ii : Int) < (Lw.length : Int)) = true := decide_eq_true (by omega)
                      have dlt2 : (ii : Int) < (Lw.length : Int) := by omega
                      have hTq : ∃ q, T[ii - (kk + 1)]? = some q ∧ Lw[ii]? = some q := by
                        refine ⟨Lw[ii], ?_, List.getElem?_eq_getElem hlt2⟩
                        rw [HT.out, HTAIL.out, List.getElem?_drop]
                        have : kk + 1 + (ii - (kk + 1)) = ii := by omega
                        rw [this]
                        exact List.getElem?_eq_getElem hlt2
                      obtain ⟨q, hTq, hLq⟩ := hTq
                      obtain ⟨A', c', e0, _, _, _, h4⟩ := HBL.out
                      obtain ⟨e1, e2, e3⟩ := Value.slice.inj e0
                      subst e1 e3
                      clear e2 e0
                      obtain ⟨b, o, rfl, hb, hbc⟩ := h4 (by rintro h0; rw [h0] at hlt2; simp at hlt2)
                      have hcell : wr.cell? ⟨b, o + ii, none⟩ = some (.int .u8 (q.toNat : Int)) := (HBX.out.cell (p := ⟨b, _, none⟩) (by show b < _; omega)).trans (hbc ii q hLq)
                      have hnx : ii + 1 - (kk + 1) = ii - (kk + 1) + 1 := by omega
                      have htk : T.take (ii + 1 - (kk + 1)) = T.take (ii - (kk + 1)) ++ [q] := by rw [hnx, List.take_add_one, hTq]; rfl
                      have HTK := Lib.hid htk
                      have HTQ := Lib.hid hTq
                      have PL := fun W => place_any l32 q W (by decide)
                      obtain ⟨pq, hpq⟩ : ∃ pq, pq = posB l32 q := ⟨_, rfl⟩
                      have hprng := posB_range l32 q
                      rw [← hpq] at hprng
                      simp only [← hpq] at PL
                      have PL := Lib.hid PL
                      have h32s : (l32.size : Int) = 32 := rfl
                      have HPQ := Lib.hid hpq
                      clear hTq hLq hbc h4 hnx htk hpq
                      by_cases hneg : pq < 0
                      · have hkf : knownB q = false := by unfold knownB; rw [← HPQ.out]; exact decide_eq_false (by omega)
                        have HR := Lib.hid (HFM.out (by rw [HSP.out, ← HT.out]; exact List.all_eq_false.2 ⟨q, List.mem_of_getElem? HTQ.out, by rw [hkf]; simp⟩))
                        have dn : decide (pq < 0) = true := decide_eq_true hneg
                        clear hneg hkf hprng
                        go_wp2_with fail
                        refine (PL.out _).mono ?_
                        rintro e w5 ⟨rfl, rfl⟩
                        go_wp2_with fail
                        (try simp only [Exit.inBlock, Exit.then]); refine bodyPost_ret (results_tmp4 rfl _ _ _) rfl ?_
                        exact ⟨.slice none 0 0, by rw [HR.out]; rfl, by rw [HR.out]; exact Byt.nil _ _, hbel.trans (HBX.out.mono hbsz)⟩
                      · have dn : decide (pq < 0) = false := decide_eq_false hneg
                        have hw : IntKind.u8.wrap pq = pq := by rw [IntKind.wrap_u8]; omega
                        have hkq : knownB q = true := by unfold knownB; rw [← HPQ.out]; exact decide_eq_true (by omega)
                        obtain ⟨D, hD⟩ : ∃ D, D = placesB l32 (T.take (ii - (kk + 1))) := ⟨_, rfl⟩
                        have hDl : D.length ≤ 90 := by rw [hD, placesB_length, List.length_take]; omega
                        have hod := HOD.out
                        rw [← hD] at hod
                        obtain ⟨Ad, cd, hdv⟩ := hod.form
                        subst hdv
                        have hsz2 := HBX.out.size
                        have HOA0 := Lib.hid hod
                        have HM := fun W => Lib.hid (Byt.made W 5 [.int .u8 pq] [b8 pq] (by rw [List.map_cons, List.map_nil, bv_b8_of (by omega) (by omega)]) (by unfold maxLen; simp))
                        have hpl : placesB l32 (T.take (ii + 1 - (kk + 1))) = D ++ [b8 pq] := by rw [HTK.out, hD]; unfold placesB; rw [List.map_append, HPQ.out]; rfl
                        have hka : ∀ c ∈ T.take (ii + 1 - (kk + 1)), knownB c = true := fun c hc => by
                          rw [HTK.out] at hc
                          rcases List.mem_append.1 hc with h5 | h5
                          · exact HAK.out c h5
                          · rw [List.mem_singleton.1 h5]; exact hkq
                        have HPL := Lib.hid hpl
                        have HKA := Lib.hid hka
                        clear hneg hkq hD hod hpl hka HOD HAK
                        go_wp2_with fail
                        refine (PL.out _).mono ?_
                        rintro e w5 ⟨rfl, rfl⟩
                        go_wp2_with (at_builtin; refine wpList_append_bytes rfl (.tmp 97) (.tmp 100) 23 rfl wr0.heap.size 5 i0 slice_u8 hi hz0 hz1 hz2 _ D.length (D.map bv) rfl (World.ownsRow.alloc HOA0.out (.cells #[.int .u8 pq] 5)) (wr.heap.size + 1) _ [b8 pq] rfl (HM wr).out (by simp; omega) (by simp; omega) ?_; intro v6 w6 hown6 hg6 hat6; have HO6 := Lib.hid (own_b (ys := D) (zs := [b8 pq]) hown6 rfl); have HB6 := Lib.hid ((HBX.out.alloc hsz2 _).grown hg6 (by simp; omega) (fun j hj => (World.ownsRow.lt (World.ownsRow.alloc HOA0.out (.cells #[.int .u8 pq] 5)) j hj).1)); clear hown6 hg6 hat6)
                        exact ⟨⟨ii + 1, by omega, by omega, by go_num, Lib.hid (by rw [HPL.out]; exact HO6.out), HKA, HB6⟩, by simp [intOf]; omega⟩
                  · as_aux_lemma =>
                      have dlt : decide ((ii : Int) < (Lw.length : Int)) = false := decide_eq_false (by omega)
                      have hiiL : ii = Lw.length := by omega
                      have hTall : T.take (ii - (kk + 1)) = T := List.take_of_length_le (by have := HTLL.out; have := HLL.out; omega)
                      have hod := HOD.out
                      have hak := HAK.out
                      rw [hTall] at hod hak
                      have hkn : T.all knownB = true := List.all_eq_true.2 hak
                      have hrs := HSM.out (by rw [HSP.out, ← HT.out]; exact hkn)
                      obtain ⟨V, hV⟩ : ∃ V, V = valsS cs := ⟨_, rfl⟩
                      have hVT : V = placesB l32 T := by rw [hV]; unfold valsS; rw [← HT.out]
                      obtain ⟨hd, hhd⟩ : ∃ hd, hd = headS cs := ⟨_, rfl⟩
                      rw [← hVT] at hod
                      rw [← hV, ← hhd] at hrs
                      have hVl : V.length = T.length := by rw [hVT, placesB_length]
                      have hV90 : V.length ≤ 90 := by have := HTLL.out; omega
                      have hhd2 : hd = Lw.take kk := by rw [hhd]; exact HHEAD.out
                      obtain ⟨Ad, cd, hdv⟩ := hod.form
                      subst hdv
                      obtain ⟨nv, hnv⟩ : ∃ nv, nv = V.length := ⟨_, rfl⟩
                      obtain ⟨np, hnp⟩ : ∃ np, nv = np + 6 := ⟨nv - 6, by omega⟩
                      have hbyV : Byt wr wr.heap.size (.slice Ad V.length cd) V := Byt.of_own hod
                      have hcapV := hbyV.cap
                      have hbyV2 := hbyV.take_ (k := np) (by omega)
                      have hVt : V.take np = V.take (V.length - 6) := by congr 1; omega
                      have hsz0 := HBX.out.size
                      have hbyH : Byt wr wr0.heap.size (.slice As kk c9) hd := by
                        rw [hhd2]
                        exact (HBL.out.take_ (k := kk) (by have := HKL.out; omega)).below HBX.out
                      have hhl : hd.length ≤ 90 := by rw [hhd2, List.length_take]; omega
                      obtain ⟨Hs, hHs⟩ : ∃ Hs : ByteArray, Hs = ⟨hd.toArray⟩ := ⟨_, rfl⟩
                      have hHsz : Hs.size ≤ 90 := by rw [hHs]; show hd.toArray.size ≤ 90; rw [List.size_toArray]; exact hhl
                      have hHd : Hs.data.toList = hd := by rw [hHs]
                      have rst := run_string_of (P := Tryd.prog) wr 23 9 5 slice_u8 Tryd.underlying5 Tryd.underlying9 _ _ _ hbyH
                      rw [← hHs] at rst
                      have r30 := fun W => run_to As Lw.length c9 kk (by have := HKL.out; omega) (by have := HKL.out; omega) W
                      have S := rsum_any wr.heap.size Hs _ V wr hbyV (Nat.le_refl _) (by omega) (by omega)
                      rw [hHd] at S
                      obtain ⟨c0, hc0⟩ : ∃ c0, c0 = sumB hd V := ⟨_, rfl⟩
                      rw [← hc0] at S
                      have HS := Lib.hid S
                      have HC0 := Lib.hid hc0
                      have HRS := Lib.hid hrs
                      have HHS2 := Lib.hid hHs
                      have HBH := Lib.hid hbyH
                      have HBV := Lib.hid hbyV
                      have HBV2 := Lib.hid hbyV2
                      have HVT2 := Lib.hid hVt
                      have HNV := Lib.hid hnv
                      have HNP := Lib.hid hnp
                      clear hTall hod hak hkn hrs hV hVT hhd hVl hhd2 hbyV hbyV2 hVt hbyH hhl hHs hHd S hc0 hnv hnp HOD HAK hiiL
                      go_wp2_with fail
                      refine HS.out.mono ?_
                      rintro e w7 ⟨rfl, hb7⟩
                      have HB7 := Lib.hid hb7
                      have hnv6 : IntKind.i64.wrap ((nv : Int) - 6) = (np : Int) := by rw [IntWalk.i64_in _ (by have := HNP.out; have := HNV.out; omega)]; have := HNP.out; omega
                      have hwn : IntKind.i64.wrap ((V.length : Int) - 6) = (np : Int) := by rw [IntWalk.i64_in _ (by omega)]; have := HNP.out; have := HNV.out; omega
                      have r33 := fun W => run_to Ad V.length cd np (by have := HNP.out; have := HNV.out; omega) (by have := HNP.out; have := HNV.out; omega) W
                      clear hb7 rst
                      by_cases h1 : c0 = 1
                      · have n1 : ((c0 : Int) != 1) = false := by rw [h1]; rfl
                        have e1 : ((c0 : Int) == 1) = true := by rw [h1]; rfl
                        have HR : Hid (r = ⟨0, hd, V.take (V.length - 6), false⟩) := Lib.hid (by rw [HRS.out]; exact sumR_lo (by rw [← HC0.out]; exact h1))
                        clear h1
                        go_wp2_with fail
                        refine wp_region_held_drew (S := (fun w' => Byt w' wr0.heap.size (.slice As kk c9) hd)) (by kernel_rfl) ?_ (fun hHeld => ?_)
                        · exact byt_drewN (HBH.out.below (HB7.out.mono hsz0)) 1
                        refine wpAnyH_take (i := 0) (oi := { dst := some 114, op := Go.Op.move (Go.Operand.tmp 9), type := 23, pos := "ref.go:288", after := #[], guard := none }) (v := ?cv0) rfl (by kernel_rfl) (by kernel_rfl) (by kernel_rfl) (fun _ _ _ h => h) (Or.inl ⟨by rfl, ?cy0⟩) (by assumption) ?cr0
                        case cy0 => (intro w hSw; (try dsimp only at hSw); go_simp; try (with_reducible rfl))
                        case cr0 =>
                        try simp only [Act.put, List.setIfInBounds_toArray, List.set_cons_zero, List.set_cons_succ]
                        refine wpAnyH_take (i := 1) (oi := { dst := some 115, op := Go.Op.move (Go.Operand.tmp 8), type := 3, pos := "ref.go:288", after := #[], guard := none }) (v := ?cv1) rfl (by kernel_rfl) (by kernel_rfl) (by kernel_rfl) (fun _ _ _ h => h) (Or.inl ⟨by rfl, ?cy1⟩) (by assumption) ?cr1
                        case cy1 => (intro w hSw; (try dsimp only at hSw); go_simp; try (with_reducible rfl))
                        case cr1 =>
                        try simp only [Act.put, List.setIfInBounds_toArray, List.set_cons_zero, List.set_cons_succ]
                        refine wpAnyH_take (i := 2) (oi := { dst := some 116, op := Go.Op.slice 23 (Go.Operand.tmp 114) none (some (Go.Operand.tmp 115)) none, type := 23, pos := "ref.go:288", after := #[{ on := 0, ground := Go.Ground.data }, { on := 1, ground := Go.Ground.data }], guard := none }) (v := (.slice As kk c9)) rfl (by kernel_rfl) (by kernel_rfl) (by kernel_rfl) (fun _ _ _ h => h) (Or.inl ⟨by rfl, ?cy2⟩) (by assumption) ?cr2
                        case cy2 => (intro w hSw; (try dsimp only at hSw); go_simp; try (with_reducible rfl))
                        case cr2 =>
                        try simp only [Act.put, List.setIfInBounds_toArray, List.set_cons_zero, List.set_cons_succ]
                        refine wpAnyH_take (i := 3) (oi := { dst := some 117, op := Go.Op.convert 23 9 (Go.Operand.tmp 116), type := 9, pos := "ref.go:288", after := #[{ on := 2, ground := Go.Ground.data }], guard := none }) (v := (.string Hs)) rfl (by kernel_rfl) (by kernel_rfl) (by kernel_rfl) (fun _ _ _ h => h) (Or.inl ⟨by rfl, ?cy3⟩) (by assumption) ?cr3
                        case cy3 => (intro w hSw; (try dsimp only at hSw); go_simp; try (rw [run_string_of (P := Tryd.prog) _ 23 9 5 slice_u8 Tryd.underlying5 Tryd.underlying9 _ _ _ hSw, HHS2.out]; rfl))
                        case cr3 =>
                        try simp only [Act.put, List.setIfInBounds_toArray, List.set_cons_zero, List.set_cons_succ]
                        refine wpAnyH_take (i := 4) (oi := { dst := some 118, op := Go.Op.move (Go.Operand.tmp 12), type := 23, pos := "ref.go:288", after := #[], guard := none }) (v := ?cv4) rfl (by kernel_rfl) (by kernel_rfl) (by kernel_rfl) (fun _ _ _ h => h) (Or.inl ⟨by rfl, ?cy4⟩) (by assumption) ?cr4
                        case cy4 => (intro w hSw; (try dsimp only at hSw); go_simp; try (with_reducible rfl))
                        case cr4 =>
                        try simp only [Act.put, List.setIfInBounds_toArray, List.set_cons_zero, List.set_cons_succ]
                        refine wpAnyH_take (i := 5) (oi := { dst := some 119, op := Go.Op.move (Go.Operand.tmp 12), type := 23, pos := "ref.go:288", after := #[], guard := none }) (v := ?cv5) rfl (by kernel_rfl) (by kernel_rfl) (by kernel_rfl) (fun _ _ _ h => h) (Or.inl ⟨by rfl, ?cy5⟩) (by assumption) ?cr5
                        case cy5 => (intro w hSw; (try dsimp only at hSw); go_simp; try (with_reducible rfl))
                        case cr5 =>
                        try simp only [Act.put, List.setIfInBounds_toArray, List.set_cons_zero, List.set_cons_succ]
                        refine wpAnyH_take (i := 6) (oi := { dst := some 120, op := Go.Op.call { callee := Go.Callee.builtin Go.Builtin.len, args := #[Go.Operand.tmp 119], argTypes := #[23] }, type := 3, pos := "ref.go:288", after := #[{ on := 5, ground := Go.Ground.data }], guard := none }) (v := ?cv6) rfl (by kernel_rfl) (by kernel_rfl) (by kernel_rfl) (fun _ _ _ h => h) (Or.inl ⟨by rfl, ?cy6⟩) (by assumption) ?cr6
                        case cy6 => (intro w hSw; (try dsimp only at hSw); go_simp; try (with_reducible rfl))
                        case cr6 =>
                        try simp only [Act.put, List.setIfInBounds_toArray, List.set_cons_zero, List.set_cons_succ]
                        refine wpAnyH_take (i := 7) (oi := { dst := some 121, op := Go.Op.binOp Go.BinOp.sub 3 (Go.Operand.tmp 120) (Go.Operand.const (Go.Value.int Go.IntKind.i64 6)) 3, type := 3, pos := "ref.go:288", after := #[{ on := 6, ground := Go.Ground.data }], guard := none }) (v := ?cv7) rfl (by kernel_rfl) (by kernel_rfl) (by kernel_rfl) (fun _ _ _ h => h) (Or.inl ⟨by rfl, ?cy7⟩) (by assumption) ?cr7
                        case cy7 => (intro w hSw; (try dsimp only at hSw); go_simp; try (with_reducible rfl))
                        case cr7 =>
                        try simp only [Act.put, List.setIfInBounds_toArray, List.set_cons_zero, List.set_cons_succ]
                        refine wpAnyH_take (i := 8) (oi := { dst := some 122, op := Go.Op.slice 23 (Go.Operand.tmp 118) none (some (Go.Operand.tmp 121)) none, type := 23, pos := "ref.go:288", after := #[{ on := 4, ground := Go.Ground.data }, { on := 7, ground := Go.Ground.data }], guard := none }) (v := (.slice Ad np cd)) rfl (by kernel_rfl) (by kernel_rfl) (by kernel_rfl) (fun _ _ _ h => h) (Or.inl ⟨by rfl, ?cy8⟩) (by assumption) ?cr8
                        case cy8 => (intro w hSw; (try dsimp only at hSw); go_simp; try (with_reducible rfl))
                        case cr8 =>
                        try simp only [Act.put, List.setIfInBounds_toArray, List.set_cons_zero, List.set_cons_succ]
                        refine wpAnyH_take (i := 9) (oi := { dst := some 123, op := Go.Op.move (Go.Operand.tmp 15), type := 52, pos := "ref.go:288", after := #[{ on := 12, ground := Go.Ground.gcOnly Go.Departure.lateStores }], guard := none }) (v := ?cv9) rfl (by kernel_rfl) (by kernel_rfl) (by kernel_rfl) (fun _ _ _ h => h) (Or.inl ⟨by rfl, ?cy9⟩) (by assumption) ?cr9
                        case cy9 => (intro w hSw; (try dsimp only at hSw); go_simp; try (with_reducible rfl))
                        case cr9 =>
                        try simp only [Act.put, List.setIfInBounds_toArray, List.set_cons_zero, List.set_cons_succ]
                        refine wpAnyH_take (i := 10) (oi := { dst := some 124, op := Go.Op.binOp Go.BinOp.neq 52 (Go.Operand.tmp 123) (Go.Operand.const (Go.Value.int Go.IntKind.u64 1)) 52, type := 4, pos := "ref.go:288", after := #[{ on := 9, ground := Go.Ground.data }, { on := 12, ground := Go.Ground.gcOnly Go.Departure.lateStores }], guard := none }) (v := ?cv10) rfl (by kernel_rfl) (by kernel_rfl) (by kernel_rfl) (fun _ _ _ h => h) (Or.inl ⟨by rfl, ?cy10⟩) (by assumption) ?cr10
                        case cy10 => (intro w hSw; (try dsimp only at hSw); go_simp; try (with_reducible rfl))
                        case cr10 =>
                        try simp only [Act.put, List.setIfInBounds_toArray, List.set_cons_zero, List.set_cons_succ]
                        refine wpAnyH_take (i := 11) (oi := { dst := some 2, op := Go.Op.assign (Go.Operand.tmp 117), type := 9, pos := "ref.go:288", after := #[{ on := 3, ground := Go.Ground.data }, { on := 0, ground := Go.Ground.phase }, { on := 1, ground := Go.Ground.phase }, { on := 2, ground := Go.Ground.phase }, { on := 3, ground := Go.Ground.phase }, { on := 4, ground := Go.Ground.textOnly Go.Departure.lateStores }, { on := 5, ground := Go.Ground.textOnly Go.Departure.lateStores }, { on := 6, ground := Go.Ground.textOnly Go.Departure.lateStoresUnsure }, { on := 7, ground := Go.Ground.textOnly Go.Departure.lateStores }, { on := 8, ground := Go.Ground.textOnly Go.Departure.lateStoresUnsure }, { on := 9, ground := Go.Ground.textOnly Go.Departure.lateStores }, { on := 10, ground := Go.Ground.textOnly Go.Departure.lateStores }], guard := none }) (v := ?cv11) rfl (by kernel_rfl) (by kernel_rfl) (by kernel_rfl) (fun _ _ _ h => h) (Or.inl ⟨by rfl, ?cy11⟩) (by assumption) ?cr11
                        case cy11 => (intro w hSw; (try dsimp only at hSw); go_simp; try (with_reducible rfl))
                        case cr11 =>
                        try simp only [Act.put, List.setIfInBounds_toArray, List.set_cons_zero, List.set_cons_succ]
                        refine wpAnyH_take (i := 12) (oi := { dst := some 3, op := Go.Op.assign (Go.Operand.tmp 122), type := 23, pos := "ref.go:288", after := #[{ on := 8, ground := Go.Ground.data }, { on := 11, ground := Go.Ground.chain }, { on := 0, ground := Go.Ground.phase }, { on := 1, ground := Go.Ground.phase }, { on := 2, ground := Go.Ground.phase }, { on := 3, ground := Go.Ground.phase }, { on := 4, ground := Go.Ground.phase }, { on := 5, ground := Go.Ground.phase }, { on := 6, ground := Go.Ground.phase }, { on := 7, ground := Go.Ground.phase }, { on := 8, ground := Go.Ground.phase }, { on := 9, ground := Go.Ground.textOnly Go.Departure.lateStores }, { on := 10, ground := Go.Ground.textOnly Go.Departure.lateStores }, { on := 11, ground := Go.Ground.phase }], guard := none }) (v := ?cv12) rfl (by kernel_rfl) (by kernel_rfl) (by kernel_rfl) (fun _ _ _ h => h) (Or.inl ⟨by rfl, ?cy12⟩) (by assumption) ?cr12
                        case cy12 => (intro w hSw; (try dsimp only at hSw); go_simp; try (with_reducible rfl))
                        case cr12 =>
                        try simp only [Act.put, List.setIfInBounds_toArray, List.set_cons_zero, List.set_cons_succ]
                        refine wpAnyH_take (i := 13) (oi := { dst := some 4, op := Go.Op.assign (Go.Operand.tmp 124), type := 4, pos := "ref.go:288", after := #[{ on := 10, ground := Go.Ground.data }, { on := 12, ground := Go.Ground.chain }, { on := 0, ground := Go.Ground.phase }, { on := 1, ground := Go.Ground.phase }, { on := 2, ground := Go.Ground.phase }, { on := 3, ground := Go.Ground.phase }, { on := 4, ground := Go.Ground.phase }, { on := 5, ground := Go.Ground.phase }, { on := 6, ground := Go.Ground.phase }, { on := 7, ground := Go.Ground.phase }, { on := 8, ground := Go.Ground.phase }, { on := 9, ground := Go.Ground.phase }, { on := 10, ground := Go.Ground.phase }, { on := 11, ground := Go.Ground.phase }, { on := 12, ground := Go.Ground.phase }], guard := none }) (v := ?cv13) rfl (by kernel_rfl) (by kernel_rfl) (by kernel_rfl) (fun _ _ _ h => h) (Or.inl ⟨by rfl, ?cy13⟩) (by assumption) ?cr13
                        case cy13 => (intro w hSw; (try dsimp only at hSw); go_simp; try (with_reducible rfl))
                        case cr13 =>
                        try simp only [Act.put, List.setIfInBounds_toArray, List.set_cons_zero, List.set_cons_succ]
                        refine wpAnyH_take (i := 14) (oi := { dst := some 5, op := Go.Op.assign (Go.Operand.const (Go.Value.int Go.IntKind.i64 0)), type := 3, pos := "ref.go:288", after := #[{ on := 13, ground := Go.Ground.chain }, { on := 0, ground := Go.Ground.phase }, { on := 1, ground := Go.Ground.phase }, { on := 2, ground := Go.Ground.phase }, { on := 3, ground := Go.Ground.phase }, { on := 4, ground := Go.Ground.phase }, { on := 5, ground := Go.Ground.phase }, { on := 6, ground := Go.Ground.phase }, { on := 7, ground := Go.Ground.phase }, { on := 8, ground := Go.Ground.phase }, { on := 9, ground := Go.Ground.phase }, { on := 10, ground := Go.Ground.phase }, { on := 11, ground := Go.Ground.phase }, { on := 12, ground := Go.Ground.phase }, { on := 13, ground := Go.Ground.phase }], guard := none }) (v := ?cv14) rfl (by kernel_rfl) (by kernel_rfl) (by kernel_rfl) (fun _ _ _ h => h) (Or.inl ⟨by rfl, ?cy14⟩) (by assumption) ?cr14
                        case cy14 => (intro w hSw; (try dsimp only at hSw); go_simp; try (with_reducible rfl))
                        case cr14 =>
                        try simp only [Act.put, List.setIfInBounds_toArray, List.set_cons_zero, List.set_cons_succ]
                        refine wpAnyH_done (by kernel_rfl) ?_ _
                        go_wp2_with fail
                        (try simp only [Exit.inBlock, Exit.then]); refine bodyPost_ret (results_tmp4 rfl _ _ _) rfl ?_
                        refine ⟨.slice Ad np cd, by rw [HR.out, ← HHS2.out]; rfl, ?_, (hbel.trans (HBX.out.mono hbsz)).trans ((HB7.out.trans (show Below wr.heap.size w7 w7.drew from ⟨rfl, rfl, rfl, Nat.le_refl _, fun _ _ => rfl⟩)).mono (Nat.le_trans hbsz hsz0))⟩
                        rw [HR.out]
                        show Byt _ _ _ (V.take (V.length - 6))
                        rw [← HVT2.out]
                        exact (byt_drewN (HBV2.out.below HB7.out) 1).more HB7.out.size
                      · have n1 : ((c0 : Int) != 1) = true := by rw [bne_iff_ne]; omega
                        have e1 : ((c0 : Int) == 1) = false := by rw [beq_eq_false_iff_ne]; omega
                        have hl0 : ¬ sumB hd V = lastX false := by rw [← HC0.out]; exact h1
                        by_cases h2 : c0 = 734539939
                        · have n2 : ((c0 : Int) != 734539939) = false := by rw [h2]; rfl
                          have e2 : ((c0 : Int) == 734539939) = true := by rw [h2]; rfl
                          have HR : Hid (r = ⟨0, hd, V.take (V.length - 6), true⟩) := Lib.hid (by rw [HRS.out]; exact sumR_hi hl0 (by rw [← HC0.out]; exact h2))
                          clear h1 h2 hl0
                          go_wp2_with fail
                          refine wp_region_held_drew (S := (fun w' => Byt w' wr0.heap.size (.slice As kk c9) hd)) (by kernel_rfl) ?_ (fun hHeld => ?_)
                          · exact byt_drewN (HBH.out.below (HB7.out.mono hsz0)) 1
                          refine wpAnyH_take (i := 0) (oi := { dst := some 114, op := Go.Op.move (Go.Operand.tmp 9), type := 23, pos := "ref.go:288", after := #[], guard := none }) (v := ?dv0) rfl (by kernel_rfl) (by kernel_rfl) (by kernel_rfl) (fun _ _ _ h => h) (Or.inl ⟨by rfl, ?dy0⟩) (by assumption) ?dr0
                          case dy0 => (intro w hSw; (try dsimp only at hSw); go_simp; try (with_reducible rfl))
                          case dr0 =>
                          try simp only [Act.put, List.setIfInBounds_toArray, List.set_cons_zero, List.set_cons_succ]
                          refine wpAnyH_take (i := 1) (oi := { dst := some 115, op := Go.Op.move (Go.Operand.tmp 8), type := 3, pos := "ref.go:288", after := #[], guard := none }) (v := ?dv1) rfl (by kernel_rfl) (by kernel_rfl) (by kernel_rfl) (fun _ _ _ h => h) (Or.inl ⟨by rfl, ?dy1⟩) (by assumption) ?dr1
                          case dy1 => (intro w hSw; (try dsimp only at hSw); go_simp; try (with_reducible rfl))
                          case dr1 =>
                          try simp only [Act.put, List.setIfInBounds_toArray, List.set_cons_zero, List.set_cons_succ]
                          refine wpAnyH_take (i := 2) (oi := { dst := some 116, op := Go.Op.slice 23 (Go.Operand.tmp 114) none (some (Go.Operand.tmp 115)) none, type := 23, pos := "ref.go:288", after := #[{ on := 0, ground := Go.Ground.data }, { on := 1, ground := Go.Ground.data }], guard := none }) (v := (.slice As kk c9)) rfl (by kernel_rfl) (by kernel_rfl) (by kernel_rfl) (fun _ _ _ h => h) (Or.inl ⟨by rfl, ?dy2⟩) (by assumption) ?dr2
                          case dy2 => (intro w hSw; (try dsimp only at hSw); go_simp; try (with_reducible rfl))
                          case dr2 =>
                          try simp only [Act.put, List.setIfInBounds_toArray, List.set_cons_zero, List.set_cons_succ]
                          refine wpAnyH_take (i := 3) (oi := { dst := some 117, op := Go.Op.convert 23 9 (Go.Operand.tmp 116), type := 9, pos := "ref.go:288", after := #[{ on := 2, ground := Go.Ground.data }], guard := none }) (v := (.string Hs)) rfl (by kernel_rfl) (by kernel_rfl) (by kernel_rfl) (fun _ _ _ h => h) (Or.inl ⟨by rfl, ?dy3⟩) (by assumption) ?dr3
                          case dy3 => (intro w hSw; (try dsimp only at hSw); go_simp; try (rw [run_string_of (P := Tryd.prog) _ 23 9 5 slice_u8 Tryd.underlying5 Tryd.underlying9 _ _ _ hSw, HHS2.out]; rfl))
                          case dr3 =>
                          try simp only [Act.put, List.setIfInBounds_toArray, List.set_cons_zero, List.set_cons_succ]
                          refine wpAnyH_take (i := 4) (oi := { dst := some 118, op := Go.Op.move (Go.Operand.tmp 12), type := 23, pos := "ref.go:288", after := #[], guard := none }) (v := ?dv4) rfl (by kernel_rfl) (by kernel_rfl) (by kernel_rfl) (fun _ _ _ h => h) (Or.inl ⟨by rfl, ?dy4⟩) (by assumption) ?dr4
                          case dy4 => (intro w hSw; (try dsimp only at hSw); go_simp; try (with_reducible rfl))
                          case dr4 =>
                          try simp only [Act.put, List.setIfInBounds_toArray, List.set_cons_zero, List.set_cons_succ]
                          refine wpAnyH_take (i := 5) (oi := { dst := some 119, op := Go.Op.move (Go.Operand.tmp 12), type := 23, pos := "ref.go:288", after := #[], guard := none }) (v := ?dv5) rfl (by kernel_rfl) (by kernel_rfl) (by kernel_rfl) (fun _ _ _ h => h) (Or.inl ⟨by rfl, ?dy5⟩) (by assumption) ?dr5
                          case dy5 => (intro w hSw; (try dsimp only at hSw); go_simp; try (with_reducible rfl))
                          case dr5 =>
                          try simp only [Act.put, List.setIfInBounds_toArray, List.set_cons_zero, List.set_cons_succ]
                          refine wpAnyH_take (i := 6) (oi := { dst := some 120, op := Go.Op.call { callee := Go.Callee.builtin Go.Builtin.len, args := #[Go.Operand.tmp 119], argTypes := #[23] }, type := 3, pos := "ref.go:288", after := #[{ on := 5, ground := Go.Ground.data }], guard := none }) (v := ?dv6) rfl (by kernel_rfl) (by kernel_rfl) (by kernel_rfl) (fun _ _ _ h => h) (Or.inl ⟨by rfl, ?dy6⟩) (by assumption) ?dr6
                          case dy6 => (intro w hSw; (try dsimp only at hSw); go_simp; try (with_reducible rfl))
                          case dr6 =>
                          try simp only [Act.put, List.setIfInBounds_toArray, List.set_cons_zero, List.set_cons_succ]
                          refine wpAnyH_take (i := 7) (oi := { dst := some 121, op := Go.Op.binOp Go.BinOp.sub 3 (Go.Operand.tmp 120) (Go.Operand.const (Go.Value.int Go.IntKind.i64 6)) 3, type := 3, pos := "ref.go:288", after := #[{ on := 6, ground := Go.Ground.data }], guard := none }) (v := ?dv7) rfl (by kernel_rfl) (by kernel_rfl) (by kernel_rfl) (fun _ _ _ h => h) (Or.inl ⟨by rfl, ?dy7⟩) (by assumption) ?dr7
                          case dy7 => (intro w hSw; (try dsimp only at hSw); go_simp; try (with_reducible rfl))
                          case dr7 =>
                          try simp only [Act.put, List.setIfInBounds_toArray, List.set_cons_zero, List.set_cons_succ]
                          refine wpAnyH_take (i := 8) (oi := { dst := some 122, op := Go.Op.slice 23 (Go.Operand.tmp 118) none (some (Go.Operand.tmp 121)) none, type := 23, pos := "ref.go:288", after := #[{ on := 4, ground := Go.Ground.data }, { on := 7, ground := Go.Ground.data }], guard := none }) (v := (.slice Ad np cd)) rfl (by kernel_rfl) (by kernel_rfl) (by kernel_rfl) (fun _ _ _ h => h) (Or.inl ⟨by rfl, ?dy8⟩) (by assumption) ?dr8
                          case dy8 => (intro w hSw; (try dsimp only at hSw); go_simp; try (with_reducible rfl))
                          case dr8 =>
                          try simp only [Act.put, List.setIfInBounds_toArray, List.set_cons_zero, List.set_cons_succ]
                          refine wpAnyH_take (i := 9) (oi := { dst := some 123, op := Go.Op.move (Go.Operand.tmp 15), type := 52, pos := "ref.go:288", after := #[{ on := 12, ground := Go.Ground.gcOnly Go.Departure.lateStores }], guard := none }) (v := ?dv9) rfl (by kernel_rfl) (by kernel_rfl) (by kernel_rfl) (fun _ _ _ h => h) (Or.inl ⟨by rfl, ?dy9⟩) (by assumption) ?dr9
                          case dy9 => (intro w hSw; (try dsimp only at hSw); go_simp; try (with_reducible rfl))
                          case dr9 =>
                          try simp only [Act.put, List.setIfInBounds_toArray, List.set_cons_zero, List.set_cons_succ]
                          refine wpAnyH_take (i := 10) (oi := { dst := some 124, op := Go.Op.binOp Go.BinOp.neq 52 (Go.Operand.tmp 123) (Go.Operand.const (Go.Value.int Go.IntKind.u64 1)) 52, type := 4, pos := "ref.go:288", after := #[{ on := 9, ground := Go.Ground.data }, { on := 12, ground := Go.Ground.gcOnly Go.Departure.lateStores }], guard := none }) (v := ?dv10) rfl (by kernel_rfl) (by kernel_rfl) (by kernel_rfl) (fun _ _ _ h => h) (Or.inl ⟨by rfl, ?dy10⟩) (by assumption) ?dr10
                          case dy10 => (intro w hSw; (try dsimp only at hSw); go_simp; try (with_reducible rfl))
                          case dr10 =>
                          try simp only [Act.put, List.setIfInBounds_toArray, List.set_cons_zero, List.set_cons_succ]
                          refine wpAnyH_take (i := 11) (oi := { dst := some 2, op := Go.Op.assign (Go.Operand.tmp 117), type := 9, pos := "ref.go:288", after := #[{ on := 3, ground := Go.Ground.data }, { on := 0, ground := Go.Ground.phase }, { on := 1, ground := Go.Ground.phase }, { on := 2, ground := Go.Ground.phase }, { on := 3, ground := Go.Ground.phase }, { on := 4, ground := Go.Ground.textOnly Go.Departure.lateStores }, { on := 5, ground := Go.Ground.textOnly Go.Departure.lateStores }, { on := 6, ground := Go.Ground.textOnly Go.Departure.lateStoresUnsure }, { on := 7, ground := Go.Ground.textOnly Go.Departure.lateStores }, { on := 8, ground := Go.Ground.textOnly Go.Departure.lateStoresUnsure }, { on := 9, ground := Go.Ground.textOnly Go.Departure.lateStores }, { on := 10, ground := Go.Ground.textOnly Go.Departure.lateStores }], guard := none }) (v := ?dv11) rfl (by kernel_rfl) (by kernel_rfl) (by kernel_rfl) (fun _ _ _ h => h) (Or.inl ⟨by rfl, ?dy11⟩) (by assumption) ?dr11
                          case dy11 => (intro w hSw; (try dsimp only at hSw); go_simp; try (with_reducible rfl))
                          case dr11 =>
                          try simp only [Act.put, List.setIfInBounds_toArray, List.set_cons_zero, List.set_cons_succ]
                          refine wpAnyH_take (i := 12) (oi := { dst := some 3, op := Go.Op.assign (Go.Operand.tmp 122), type := 23, pos := "ref.go:288", after := #[{ on := 8, ground := Go.Ground.data }, { on := 11, ground := Go.Ground.chain }, { on := 0, ground := Go.Ground.phase }, { on := 1, ground := Go.Ground.phase }, { on := 2, ground := Go.Ground.phase }, { on := 3, ground := Go.Ground.phase }, { on := 4, ground := Go.Ground.phase }, { on := 5, ground := Go.Ground.phase }, { on := 6, ground := Go.Ground.phase }, { on := 7, ground := Go.Ground.phase }, { on := 8, ground := Go.Ground.phase }, { on := 9, ground := Go.Ground.textOnly Go.Departure.lateStores }, { on := 10, ground := Go.Ground.textOnly Go.Departure.lateStores }, { on := 11, ground := Go.Ground.phase }], guard := none }) (v := ?dv12) rfl (by kernel_rfl) (by kernel_rfl) (by kernel_rfl) (fun _ _ _ h => h) (Or.inl ⟨by rfl, ?dy12⟩) (by assumption) ?dr12
                          case dy12 => (intro w hSw; (try dsimp only at hSw); go_simp; try (with_reducible rfl))
                          case dr12 =>
                          try simp only [Act.put, List.setIfInBounds_toArray, List.set_cons_zero, List.set_cons_succ]
                          refine wpAnyH_take (i := 13) (oi := { dst := some 4, op := Go.Op.assign (Go.Operand.tmp 124), type := 4, pos := "ref.go:288", after := #[{ on := 10, ground := Go.Ground.data }, { on := 12, ground := Go.Ground.chain }, { on := 0, ground := Go.Ground.phase }, { on := 1, ground := Go.Ground.phase }, { on := 2, ground := Go.Ground.phase }, { on := 3, ground := Go.Ground.phase }, { on := 4, ground := Go.Ground.phase }, { on := 5, ground := Go.Ground.phase }, { on := 6, ground := Go.Ground.phase }, { on := 7, ground := Go.Ground.phase }, { on := 8, ground := Go.Ground.phase }, { on := 9, ground := Go.Ground.phase }, { on := 10, ground := Go.Ground.phase }, { on := 11, ground := Go.Ground.phase }, { on := 12, ground := Go.Ground.phase }], guard := none }) (v := ?dv13) rfl (by kernel_rfl) (by kernel_rfl) (by kernel_rfl) (fun _ _ _ h => h) (Or.inl ⟨by rfl, ?dy13⟩) (by assumption) ?dr13
                          case dy13 => (intro w hSw; (try dsimp only at hSw); go_simp; try (with_reducible rfl))
                          case dr13 =>
                          try simp only [Act.put, List.setIfInBounds_toArray, List.set_cons_zero, List.set_cons_succ]
                          refine wpAnyH_take (i := 14) (oi := { dst := some 5, op := Go.Op.assign (Go.Operand.const (Go.Value.int Go.IntKind.i64 0)), type := 3, pos := "ref.go:288", after := #[{ on := 13, ground := Go.Ground.chain }, { on := 0, ground := Go.Ground.phase }, { on := 1, ground := Go.Ground.phase }, { on := 2, ground := Go.Ground.phase }, { on := 3, ground := Go.Ground.phase }, { on := 4, ground := Go.Ground.phase }, { on := 5, ground := Go.Ground.phase }, { on := 6, ground := Go.Ground.phase }, { on := 7, ground := Go.Ground.phase }, { on := 8, ground := Go.Ground.phase }, { on := 9, ground := Go.Ground.phase }, { on := 10, ground := Go.Ground.phase }, { on := 11, ground := Go.Ground.phase }, { on := 12, ground := Go.Ground.phase }, { on := 13, ground := Go.Ground.phase }], guard := none }) (v := ?dv14) rfl (by kernel_rfl) (by kernel_rfl) (by kernel_rfl) (fun _ _ _ h => h) (Or.inl ⟨by rfl, ?dy14⟩) (by assumption) ?dr14
                          case dy14 => (intro w hSw; (try dsimp only at hSw); go_simp; try (with_reducible rfl))
                          case dr14 =>
                          try simp only [Act.put, List.setIfInBounds_toArray, List.set_cons_zero, List.set_cons_succ]
                          refine wpAnyH_done (by kernel_rfl) ?_ _
                          go_wp2_with fail
                          (try simp only [Exit.inBlock, Exit.then]); refine bodyPost_ret (results_tmp4 rfl _ _ _) rfl ?_
                          refine ⟨.slice Ad np cd, by rw [HR.out, ← HHS2.out]; rfl, ?_, (hbel.trans (HBX.out.mono hbsz)).trans ((HB7.out.trans (show Below wr.heap.size w7 w7.drew from ⟨rfl, rfl, rfl, Nat.le_refl _, fun _ _ => rfl⟩)).mono (Nat.le_trans hbsz hsz0))⟩
                          rw [HR.out]
                          show Byt _ _ _ (V.take (V.length - 6))
                          rw [← HVT2.out]
                          exact (byt_drewN (HBV2.out.below HB7.out) 1).more HB7.out.size
                        · have n2 : ((c0 : Int) != 734539939) = true := by rw [bne_iff_ne]; omega
                          have e2 : ((c0 : Int) == 734539939) = false := by rw [beq_eq_false_iff_ne]; omega
                          have HR : Hid (r = noR 5) := Lib.hid (by rw [HRS.out]; exact sumR_no hl0 (by rw [← HC0.out]; exact h2))
                          clear h1 h2 hl0
                          go_wp2_with fail
                          (try simp only [Exit.inBlock, Exit.then]); refine bodyPost_ret (results_tmp4 rfl _ _ _) rfl ?_
                          exact ⟨.slice none 0 0, by rw [HR.out]; rfl, by rw [HR.out]; exact Byt.nil _ _, (hbel.trans (HBX.out.mono hbsz)).trans (HB7.out.mono (Nat.le_trans hbsz hsz0))⟩
          | true =>
            rw [Bool.true_and, Bool.not_true, Bool.false_and] at hsp
            have HR := Lib.hid (HFM.out hsp)
            clear hsp hk
            go_wp2_with fail
            (try simp only [Exit.inBlock, Exit.then]); refine bodyPost_ret (results_tmp4 rfl _ _ _) rfl ?_
            exact ⟨.slice none 0 0, by rw [HR.out]; rfl, by rw [HR.out]; exact Byt.nil _ _, hbel⟩
end Go.Proofs.YtgiljhdjknglpaaDoor
