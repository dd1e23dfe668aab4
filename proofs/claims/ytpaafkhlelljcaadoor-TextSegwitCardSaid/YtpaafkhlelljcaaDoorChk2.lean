/-
  text.Checksum, walked. Conditions: the listed table holds what its text lays; sizes within the reach.
-/
import Derived.Test.YtpaafkhlelljcaaDoorChk
namespace Go.Proofs.YtpaafkhlelljcaaDoor
open Go.RowKit

theorem bits_xor1 (c : Nat) (hc : c < 1099511627776) : bits .xor .u64 (c : Int) 1 = ((c ^^^ 1 : Nat) : Int) := bits_xor_u64_nat c 1 (by omega) (by omega)
theorem fives_eight (c : Nat) (hc : c < 1099511627776) : (fivesI (c : Int) 8).map UInt8.toNat = eightOf c := by
  have key : ∀ i, (fiveI (c : Int) (5 * (8 - 1 - i))).toNat = c / 2 ^ (5 * (7 - i)) % 32 := by
    intro i
    have e8 : 8 - 1 - i = 7 - i := by omega
    rw [e8]
    generalize 5 * (7 - i) = d
    have h2 : ((c : Int) / 2 ^ d) = ((c / 2 ^ d : Nat) : Int) := by simp
    have hle : c / 2 ^ d ≤ c := Nat.div_le_self _ _
    unfold fiveI
    rw [h2]
    generalize c / 2 ^ d = e at hle
    have h3 := bits_mask .u64 64 (by decide) wraps_u64 5 (by decide) (e : Int) (by omega) (by omega)
    have e5 : ((2 : Int) ^ 5 - 1) = 31 := by decide
    rw [e5] at h3
    rw [h3]
    have h4 := b8_toNat ((e : Int) % 2 ^ 5)
    omega
  unfold fivesI eightOf
  rw [List.map_map]
  exact List.map_congr_left fun i _ => key i
theorem letters_sum (c : Nat) (hc : c < 1099511627776) : letters l32 (fivesI (c : Int) 8) = sumLetters c := by
  unfold letters sumLetters
  rw [← fives_eight c hc, List.map_map]
  rfl
theorem fives_small (c : Nat) (hc : c < 1099511627776) : ∀ p ∈ fivesI (c : Int) 8, p.toNat < l32.size := by
  intro p hp
  have h : p.toNat ∈ (fivesI (c : Int) 8).map UInt8.toNat := List.mem_map_of_mem hp
  rw [fives_eight c hc] at h
  unfold eightOf at h
  obtain ⟨i, _, hi⟩ := List.mem_map.1 h
  have : l32.size = 32 := by decide
  omega

theorem below_made2 {w w1 : World} {o : Obj} (h : Below (w.alloc o).drew.heap.size (w.alloc o).drew w1) : Below w.heap.size w w1 :=
  (((Below.refl _ w).alloc (Nat.le_refl _) o)).trans ⟨h.os, h.tape, h.output, Nat.le_trans (by simp) h.size, fun k hk => h.block k (Nat.lt_of_lt_of_le hk (by simp))⟩
/-- What Checksum answers. -/
def ChkPost (w : World) (cs : List UInt8) (e : Ending) (w' : World) : Prop :=
  Below w.heap.size w w' ∧ ((∀ c ∈ cs, 0 ≤ posB inB c) ∧ e = .returned (.tuple #[.string ⟨(sumLetters (chkN (natsOf (placesB inB cs)))).toArray⟩, .int .i64 0]) ∨ (∃ c ∈ cs, posB inB c < 0) ∧ e = .returned (.tuple #[.string ⟨#[]⟩, .int .i64 3]))

theorem inB_places {cs : List UInt8} (h : ∀ c ∈ cs, 0 ≤ posB inB c) : ∀ p ∈ natsOf (placesB inB cs), p < 96 := by
  intro p hp
  unfold natsOf placesB at hp
  rw [List.map_map] at hp
  obtain ⟨c, hc, rfl⟩ := List.mem_map.1 hp
  have h0 := h c hc
  obtain ⟨o, ho⟩ : ∃ o : Nat, posB inB c = o := ⟨(posB inB c).toNat, by omega⟩
  have h1 := (List.getElem?_eq_some_iff.1 (Lib.indexByte_some (l := inB.data.toList) (by exact ho)).1).1
  have h2 : inB.data.toList.length = 95 := by decide
  have h3 := b8_toNat (posB inB c)
  show (b8 (posB inB c)).toNat < 96
  omega

set_option maxRecDepth 100000 in
set_option maxHeartbeats 3200000 in
theorem checksum_any (s : ByteArray) (w : World) (hl : s.size ≤ 2000) (hcode : CodeIs w) :
    Calls Tryd.prog 28 #[.string s] w (ChkPost w s.data.toList) := by
  have HC := Lib.hid hcode
  clear hcode
  go_enter Tryd.func28, Tryd.ntmps28
  go_wp2_with fail
  refine (places_any s inB w (by omega) (by decide)).mono ?_
  rintro e w1 ⟨hb1, ⟨hall, rfl, hrow⟩ | ⟨hno, rfl⟩⟩
  · obtain ⟨ps, hps⟩ : ∃ ps, ps = placesB inB s.data.toList := ⟨_, rfl⟩
    have hpl : ps.length = s.data.toList.length := by rw [hps, placesB_length]
    have hsz : s.data.toList.length = s.size := rfl
    have hp96 := inB_places hall
    have hC1 : CodeIs w1 := HC.out.below hb1 HC.out.1
    rw [← hps] at hrow hp96
    have HP := Lib.hid hps
    have H96 := Lib.hid hp96
    have HA := Lib.hid hall
    have HR := Lib.hid hrow
    have HC1 := Lib.hid hC1
    obtain ⟨n, hn⟩ : ∃ n, n = s.data.toList.length := ⟨_, rfl⟩
    rw [← hn] at hpl hsz
    rw [← hn]
    have HN := Lib.hid hn
    have HPL := Lib.hid hpl
    have hn2 : n ≤ 2000 := by omega
    clear hps hp96 hall hrow hC1 hn hpl hsz
    go_wp2_with fail
    go_loopw [20, 6, 7, 8] (fun j cc gg kk wr => ∃ (i : Nat) (c g k : Nat), i ≤ n ∧ j = .int .i64 i ∧ cc = .int .u64 c ∧ gg = .int .u8 g ∧ kk = .int .i64 k ∧ Hid (chkAll ((natsOf ps).take i) = ⟨c, g, k⟩) ∧ ChkOk ⟨c, g, k⟩ ∧ Below w1.heap.size w1 wr) (fun j _ _ _ _ => n - (intOf j).toNat)
    case atStart => exact ⟨0, 1, 0, 0, Nat.zero_le _, rfl, rfl, rfl, rfl, Lib.hid rfl, chkSt0_ok, Below.refl _ _⟩
    case round =>
      obtain ⟨i, c, g, k, hi, rfl, rfl, rfl, rfl, hst, hok, hbel⟩ := hrel
      have hcc := hok.c
      have hk3 := hok.k
      have hg8 := hok.g8
      simp only at hcc hk3 hg8
      by_cases hlt : i < n
      · obtain ⟨q, hq⟩ : ∃ q, ps[i]? = some q := ⟨_, List.getElem?_eq_getElem (by have := HPL.out; omega)⟩
        have hcell : wr.cell? ⟨w.heap.size, i, none⟩ = some (.int .u8 (q.toNat : Int)) := (hbel.cell (p := ⟨w.heap.size, i, none⟩) HR.out.lt).trans (HR.out.cell hq)
        have hq96 : q.toNat < 96 := H96.out _ (by unfold natsOf; exact List.mem_map_of_mem (List.mem_of_getElem? hq))
        obtain ⟨gz, g0, g1, g2, g3, g4, g5⟩ := HC1.out.below hbel HC1.out.1
        have hnext : chkAll ((natsOf ps).take (i + 1)) = chk1 ⟨c, g, k⟩ q.toNat := by rw [chkAll_snoc hq, hst.out]
        have hok2 := chk1_ok hok hq96
        have C1 := Lib.hid (turn_call ((q.toNat : Int) % 32) c wr (by omega) (by omega) hcc)
        have C2 := fun W => Lib.hid (turn_call (3 * (g : Int) + (q.toNat : Int) / 32) (turnN c (q.toNat % 32)) W (by omega) (by omega) (turnN_lt _ _ (by omega)))
        have e1 : ((q.toNat : Int) % 32).toNat = q.toNat % 32 := by omega
        have e2 : (3 * (g : Int) + (q.toNat : Int) / 32).toNat = 3 * g + q.toNat / 32 := by omega
        rw [e1] at C1
        simp only [e2] at C2
        have HB := Lib.hid hbel
        clear hq hst hok e1 e2 hbel
        by_cases hk2 : k = 2
        · subst hk2
          rw [chk1_open] at hnext hok2
          have HN2 := Lib.hid hnext
          have HO := Lib.hid hok2
          clear hnext hok2
          go_wp2_with fail
          refine C1.out.mono ?_
          rintro e w2 ⟨rfl, hb2⟩
          obtain ⟨fz, f0, f1, f2, f3, f4, f5⟩ := (HC1.out.below HB.out HC1.out.1).below hb2 gz
          go_wp2_with fail
          refine (C2 _).out.mono ?_
          rintro e w3 ⟨rfl, hb3⟩
          go_wp2
          refine ⟨⟨i + 1, _, _, _, by omega, by go_num, rfl, rfl, rfl, HN2, HO.out, (HB.out.trans (hb2.mono HB.out.size)).trans (hb3.mono (Nat.le_trans HB.out.size hb2.size))⟩, by simp [intOf]; omega⟩
        · rw [chk1_in _ _ _ (by omega)] at hnext hok2
          have HN2 := Lib.hid hnext
          have HO := Lib.hid hok2
          have hd : ((k : Int) + 1 == 3) = false := by simp; omega
          clear hnext hok2
          go_wp2_with fail
          refine C1.out.mono ?_
          rintro e w2 ⟨rfl, hb2⟩
          go_wp2
          refine ⟨⟨i + 1, _, _, _, by omega, by go_num, rfl, congrArg (Value.int .u8) (by omega), congrArg (Value.int .i64) (by omega), HN2, HO.out, HB.out.trans (hb2.mono HB.out.size)⟩, by simp [intOf]; omega⟩
      · have hie : (natsOf ps).take i = natsOf ps := List.take_of_length_le (by have := HPL.out; unfold natsOf; rw [List.length_map]; omega)
        rw [hie] at hst
        have hend := chkEnd_lt hok
        obtain ⟨ce, hce⟩ : ∃ ce, ce = chkEnd ⟨c, g, k⟩ := ⟨_, rfl⟩
        rw [← hce] at hend
        have HCE := Lib.hid hce
        have HB := Lib.hid hbel
        have HST := Lib.hid hst.out
        have C1 := Lib.hid (turn_call (g : Int) c wr (by omega) (by omega) hcc)
        obtain ⟨gz, g0, g1, g2, g3, g4, g5⟩ := HC1.out.below hbel HC1.out.1
        clear hce hbel hst hok hie
        go_upto_if 46 with fail
        go_cut [6] (fun s6 wx => s6 = .int .u64 (ce : Int) ∧ Below w1.heap.size w1 wx)
        case first =>
          by_cases hk0 : 0 < k
          · have hce : turnN c g = ce := by rw [HCE.out]; unfold chkEnd; rw [if_pos hk0]
            have hgn : ((g : Int)).toNat = g := by omega
            rw [hgn] at C1
            have HCE2 := Lib.hid hce
            clear hce hgn
            go_wp2_with fail
            refine C1.out.mono ?_
            rintro e w2 ⟨rfl, hb2⟩
            go_wp2
            go_meet
            exact ⟨by rw [← HCE2.out], HB.out.trans (hb2.mono HB.out.size)⟩
          · have hce : c = ce := by rw [HCE.out]; unfold chkEnd; rw [if_neg hk0]
            have HCE2 := Lib.hid hce
            clear hce
            go_wp2
            go_meet
            exact ⟨by rw [← HCE2.out], HB.out⟩
        case rest =>
          obtain ⟨rfl, hbw⟩ := hcut
          obtain ⟨gz', g0', g1', g2', g3', g4', g5'⟩ := HC1.out.below hbw HC1.out.1
          have hmk : ∀ W, (Instr.makeSlice 22 (.int .i64 8) (.int .i64 8)).run Tryd.prog W = .ok (.slice (some ⟨W.heap.size, 0, none⟩) 8 8) (W.alloc (.cells (zeroRow 8) 5)) := fun W => make_bytes W 8 8 rfl (by omega)
          have HBW := Lib.hid hbw
          clear hbw C1 HB g0 g1 g2 g3 g4 g5 gz
          have hz : Byt (wc.alloc (.cells (zeroRow 8) 5)).drew (wc.heap.size + 1) (.slice (some ⟨wc.heap.size, 0, none⟩) 8 8) (List.replicate 8 0) := by
            have h := (row_new wc 8).byt (n := 8) (c := 8) (by simp) (by omega) (by unfold maxLen; omega)
            have hs : (wc.alloc (.cells (zeroRow 8) 5)).heap.size = wc.heap.size + 1 := by simp
            rw [hs] at h
            have e : (List.replicate 8 (0 : UInt8)).take 8 = List.replicate 8 0 := rfl
            rw [e] at h
            exact h.keep (fun _ _ _ => rfl)
          have C8 := turns_call _ _ _ ce _ hz (by simp) (by simp) hend
          have e8 : turnsN ce (List.replicate 8 0) = eight ce := rfl
          rw [e8] at C8
          have hx := bits_xor1 (eight ce) (eight_lt ce)
          have hlt := Nat.xor_lt_two_pow (n := 40) (eight_lt ce) (show 1 < 1099511627776 by decide)
          have hN : eight ce ^^^ 1 = chkN (natsOf ps) := by unfold chkN; rw [HST.out, HCE.out]
          rw [hN] at hx hlt
          obtain ⟨z, hz0⟩ : ∃ z, z = chkN (natsOf ps) := ⟨_, rfl⟩
          rw [← hz0] at hx hlt
          have F8 := fun W => fives_any (z : Int) 8 W (by omega) (by omega) (by omega)
          have hfs := fives_small z hlt
          have hfl := letters_sum z hlt
          have C8' := Lib.hid C8
          have HZ0 := Lib.hid hz0
          have HFS := Lib.hid hfs
          have HFL := Lib.hid hfl
          have F8' := Lib.hid F8
          clear C8 e8 hN hz0 hfs hfl F8 hz
          go_wp2_with fail
          go_region_with (go_at_call 49; refine C8'.out.mono ?_; rintro e w2 ⟨rfl, hb2⟩)
          all_goals go_wp2_with fail
          all_goals refine (F8'.out _).mono ?_
          all_goals rintro e w3 ⟨rfl, hr3, hb3⟩
          all_goals have hby := hr3.byt (n := 8) (c := 8) (by simp [fivesI]) (by omega) (by unfold maxLen; omega)
          all_goals rw [List.take_of_length_le (by simp [fivesI])] at hby
          all_goals have S8 := Lib.hid (spell_any _ _ _ l32 w3 hby (Nat.le_refl _) (by simp [fivesI]) HFS.out)
          all_goals clear hby hr3
          all_goals go_wp2_with fail
          all_goals refine S8.out.mono ?_
          all_goals rintro e w4 ⟨rfl, hb4⟩
          all_goals rw [HFL.out]
          all_goals go_wp2
          all_goals go_ret2
          all_goals refine ⟨?_, .inl ⟨?_, ?_⟩⟩
          all_goals first
            | exact ((((hb1.trans (HBW.out.mono hb1.size)).trans ((below_made2 hb2).mono (Nat.le_trans hb1.size HBW.out.size))).trans (hb3.mono (Nat.le_trans (Nat.le_trans hb1.size HBW.out.size) (below_made2 hb2).size))).trans (hb4.mono (Nat.le_trans (Nat.le_trans (Nat.le_trans hb1.size HBW.out.size) (below_made2 hb2).size) hb3.size)))
            | exact HA.out
            | (rw [HZ0.out, HP.out]; rfl)
  · have HNO := Lib.hid hno
    clear hno
    go_wp2
    go_ret2
    exact ⟨hb1, .inr ⟨HNO.out, rfl⟩⟩
end Go.Proofs.YtpaafkhlelljcaaDoor
