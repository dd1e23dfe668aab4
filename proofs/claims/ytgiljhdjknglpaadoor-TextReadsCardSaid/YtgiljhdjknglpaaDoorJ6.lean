/-
  Texts joined: BcSeg, Chk2, BcSum. Conditions: those of each.
-/
import Derived.Test.YtgiljhdjknglpaaDoorJ4
import Derived.Test.YtgiljhdjknglpaaDoorJ5
import Derived.Deep.RegionHeld
import Derived.OrdersHeld
/-
  Addresses of witness programs, as lists of bytes: what is written is read again, and what is read has as many letters when it is written again. Conditions: none (plain mathematics).
-/
namespace Go.Proofs.YtgiljhdjknglpaaDoor
open Go.RowKit

/-- May a program of this version have so many bytes? -/
def fitsB (v : Int) (n : Nat) : Bool := if v = 0 then (n == 20 || n == 32) else (decide (2 ≤ n) && decide (n ≤ 40))
theorem fitsB_le {v : Int} {n : Nat} (h : fitsB v n = true) : 2 ≤ n ∧ n ≤ 40 := by
  unfold fitsB at h
  split at h
  · simp only [Bool.or_eq_true, beq_iff_eq] at h
    omega
  · simp only [Bool.and_eq_true, decide_eq_true_eq] at h
    omega
/-- What writing answers. -/
def segS (h : List UInt8) (ver : Int) (p : List UInt8) : Int × List UInt8 :=
  if ver < 0 ∨ 16 < ver then (1, []) else if fitsB ver p.length = false then (2, []) else bechS h (b8 ver :: (regS 8 5 true p).2) (decide (0 < ver))
structure SegR where
  e : Int
  v : Int
  p : List UInt8
def noG (e : Int) : SegR := ⟨e, 0, []⟩
def segR (hrp : List UInt8) (r : FromR) : SegR :=
  if r.e ≠ 0 then noG r.e else if r.h ≠ hrp then noG 7 else
  match r.d with
  | [] => noG 3
  | v :: vs => if 16 < v.toNat ∨ r.m ≠ decide (0 < v.toNat) then noG 3 else if (regS 5 8 false vs).1 ≠ 0 then noG (regS 5 8 false vs).1 else
      if fitsB v.toNat (regS 5 8 false vs).2.length = false then noG 2 else ⟨0, v.toNat, (regS 5 8 false vs).2⟩
/-- What reading answers. -/
def fromG (hrp cs : List UInt8) : SegR := segR hrp (fromS cs)

theorem small8 (p : List UInt8) : ∀ d ∈ p, d.toNat < 2 ^ (8 : Int).toNat := fun d _ => d.toNat_lt
theorem reg85 (p : List UInt8) : (regS 8 5 true p).1 = 0 := by
  unfold regS
  rw [if_neg (by omega), if_neg (by rintro ⟨d, hd, h⟩; have := small8 p d hd; omega)]
  simp
theorem reg85_back (p : List UInt8) : regS 5 8 false (regS 8 5 true p).2 = (0, p) := by
  have := reg_back (f := 8) (t := 5) (ds := p) (by omega) (by omega) (by omega) (by omega) (by omega) (fun d _ => d.toNat_lt)
  exact this
theorem reg85_len (p : List UInt8) : (regS 8 5 true p).2.length = (p.length * 8 + 4) / 5 := by
  unfold regS
  rw [if_neg (by omega), if_neg (by rintro ⟨d, hd, h⟩; have := small8 p d hd; omega)]
  have e8 : (8 : Int).toNat = 8 := rfl
  have e5 : (5 : Int).toNat = 5 := rfl
  rw [e8, e5]
  simp only [if_true, List.length_drop, bitsAll_length]
  split
  · rw [List.length_append, outsN_length]
    simp only [List.length_cons, List.length_nil]
    omega
  · rw [outsN_length]
    omega
theorem reg58_len {vs : List UInt8} (h : (regS 5 8 false vs).1 = 0) : (regS 5 8 false vs).2.length = vs.length * 5 / 8 ∧ vs.length * 5 - 8 * (vs.length * 5 / 8) < 5 := by
  unfold regS at h ⊢
  rw [if_neg (by omega)] at h ⊢
  split at h
  · cases h
  · next h2 =>
    rw [if_neg h2]
    have e8 : (8 : Int).toNat = 8 := rfl
    have e5 : (5 : Int).toNat = 5 := rfl
    rw [e8, e5] at h ⊢
    simp only [Bool.false_eq_true, if_false, List.length_drop, bitsAll_length] at h ⊢
    split at h
    · cases h
    · next h3 =>
      rw [if_neg h3, outsN_length]
      exact ⟨rfl, by omega⟩
theorem reg85_small (p : List UInt8) : ∀ d ∈ (regS 8 5 true p).2, d.toNat < 32 := by
  unfold regS
  rw [if_neg (by omega), if_neg (by rintro ⟨d, hd, h⟩; have := small8 p d hd; omega)]
  have e8 : (8 : Int).toNat = 8 := rfl
  have e5 : (5 : Int).toNat = 5 := rfl
  rw [e8, e5]
  simp only [if_true]
  have hbin := bitsAll_bin 8 p
  intro d hd
  split at hd
  · rcases List.mem_append.1 hd with h | h
    · exact outs_small hbin (by omega) d h
    · rw [List.mem_singleton.1 h]
      have hcb : Bin ((bitsAll 8 p).drop (5 * ((bitsAll 8 p).length / 5)) ++ List.replicate (5 - ((bitsAll 8 p).drop (5 * ((bitsAll 8 p).length / 5))).length) 0) := by
        intro x hx
        rcases List.mem_append.1 hx with h | h
        · exact hbin x (List.mem_of_mem_drop h)
        · rw [List.eq_of_mem_replicate h]; omega
      have hv := valN_lt hcb
      have hln : ((bitsAll 8 p).drop (5 * ((bitsAll 8 p).length / 5)) ++ List.replicate (5 - ((bitsAll 8 p).drop (5 * ((bitsAll 8 p).length / 5))).length) 0).length = 5 := by
        rw [List.length_append, List.length_replicate, List.length_drop]
        omega
      rw [hln] at hv
      rw [b8_of_lt (by omega)]
      exact hv
  · exact outs_small hbin (by omega) d hd

theorem segS_ok {h p : List UInt8} {ver : Int} (he : (segS h ver p).1 = 0) : 0 ≤ ver ∧ ver ≤ 16 ∧ fitsB ver p.length = true ∧ segS h ver p = bechS h (b8 ver :: (regS 8 5 true p).2) (decide (0 < ver)) := by
  unfold segS at he ⊢
  split at he
  · cases he
  · next h1 =>
    rw [if_neg h1]
    split at he
    · cases he
    · next h2 =>
      rw [if_neg h2]
      exact ⟨by omega, by omega, by cases hq : fitsB ver p.length <;> simp_all, rfl⟩
/-- What is written is read again. -/
theorem seg_back {h p : List UInt8} {ver : Int} (he : (segS h ver p).1 = 0) : fromG h (segS h ver p).2 = ⟨0, ver, p⟩ := by
  obtain ⟨h0, h16, hf, hb⟩ := segS_ok he
  rw [hb] at he ⊢
  unfold fromG
  rw [bech_back he]
  unfold segR
  rw [if_neg (by simp), if_neg (by simp)]
  have hv : ((b8 ver).toNat : Int) = ver := by have := b8_toNat ver; omega
  have hd : decide (0 < ver) = decide (0 < (b8 ver).toNat) := by
    by_cases h : 0 < ver
    · rw [decide_eq_true h, decide_eq_true (by omega)]
    · rw [decide_eq_false h, decide_eq_false (by omega)]
  simp only [reg85_back, hd]
  rw [if_neg (by rintro (h | h); · omega
                 · exact h rfl), if_neg (by simp), hv, if_neg (by rw [hf]; simp)]

theorem sumR_ok {h v : List UInt8} (he : (sumR h v).e = 0) : (sumR h v).h = h ∧ (sumR h v).d = v.take (v.length - 6) := by
  unfold sumR at he ⊢
  split at he
  · next h1 => rw [if_pos h1]; exact ⟨rfl, rfl⟩
  · next h1 =>
    rw [if_neg h1]
    split at he
    · next h2 => rw [if_pos h2]; exact ⟨rfl, rfl⟩
    · cases he
theorem fromS_ok {cs : List UInt8} (he : (fromS cs).e = 0) : cs.length ≤ 90 ∧ partOk (fromS cs).h = true ∧ (∀ v ∈ (fromS cs).d, v.toNat < 32) ∧ (fromS cs).h.length + (fromS cs).d.length + 7 = cs.length := by
  by_cases hl : 90 < cs.length
  · rw [fromS_size hl] at he; cases he
  · cases hs : splitOk cs with
    | false => rw [fromS_form hl hs] at he; cases he
    | true =>
      rw [fromS_sum hl hs] at he ⊢
      obtain ⟨e1, e2⟩ := sumR_ok he
      rw [e1, e2]
      have hs' := hs
      unfold splitOk at hs
      simp only [Bool.and_eq_true, decide_eq_true_eq] at hs
      obtain ⟨a1, a2, a3, a4, a5⟩ := hs
      rcases oneAt_spec (lowS cs) with ⟨e, _⟩ | ⟨i, e, hi, _⟩
      · omega
      · have hil := (List.getElem?_eq_some_iff.1 hi).1
        rw [lowS_length] at hil
        have hh : headS cs = (lowS cs).take i := by unfold headS; rw [e, Int.toNat_natCast]
        have ht : tailS cs = (lowS cs).drop (i + 1) := by unfold tailS; rw [e, Int.toNat_natCast]
        have hvl : (valsS cs).length = cs.length - (i + 1) := by unfold valsS; rw [placesB_length, ht, List.length_drop, lowS_length]
        have hhl : (headS cs).length = i := by rw [hh, List.length_take, lowS_length]; omega
        rw [ht, List.length_drop, lowS_length] at a4
        refine ⟨by omega, ?_, ?_, ?_⟩
        · unfold partOk
          simp only [Bool.and_eq_true, Bool.not_eq_true', List.isEmpty_eq_false_iff]
          refine ⟨by intro h0; rw [h0] at hhl; simp at hhl; omega, ?_, ?_⟩
          · rw [hh, List.all_eq_true]
            intro c hc
            have hc2 := List.mem_of_mem_take hc
            unfold lowS at hc2
            obtain ⟨d, hd, rfl⟩ := List.mem_map.1 hc2
            exact lowerB_ok d (List.all_eq_true.1 a1 d hd)
          · rw [hh, List.any_eq_false]
            intro c hc
            have hc2 := List.mem_of_mem_take hc
            unfold lowS at hc2
            obtain ⟨d, hd, rfl⟩ := List.mem_map.1 hc2
            rw [lowerB_notUp]
            simp
        · intro v hv
          have hv2 := List.mem_of_mem_take hv
          unfold valsS placesB at hv2
          obtain ⟨c, hc, rfl⟩ := List.mem_map.1 hv2
          have hk := List.all_eq_true.1 a5 c hc
          unfold knownB at hk
          have hk0 : 0 ≤ posB l32 c := by simpa using hk
          have hlt : posB l32 c < 32 := by
            obtain ⟨o, ho⟩ : ∃ o : Nat, posB l32 c = o := ⟨(posB l32 c).toNat, by omega⟩
            have h1 := (List.getElem?_eq_some_iff.1 (Lib.indexByte_some (l := l32.data.toList) (by exact ho)).1).1
            have h2 : l32.data.toList.length = 32 := by decide
            omega
          have := b8_toNat (posB l32 c)
          omega
        · rw [List.length_take, hvl, hhl]
          omega
/-- What is read may be written, and has as many letters. -/
theorem seg_again {hrp cs : List UInt8} (he : (fromG hrp cs).e = 0) : (segS hrp (fromG hrp cs).v (fromG hrp cs).p).1 = 0 ∧ (segS hrp (fromG hrp cs).v (fromG hrp cs).p).2.length = cs.length ∧ partOk hrp = true ∧ hrp.length ≤ 83 := by
  unfold fromG segR at he ⊢
  split at he
  · next h => exact absurd he h
  · next h1 =>
    rw [if_neg h1]
    have h1' : (fromS cs).e = 0 := by omega
    obtain ⟨f1, f2, f3, f4⟩ := fromS_ok h1'
    split at he
    · cases he
    · next h2 =>
      rw [if_neg h2]
      have h2' : (fromS cs).h = hrp := by simpa using h2
      rw [h2'] at f2 f4
      revert he
      split
      · intro he; cases he
      · next v vs hd =>
        intro he
        rw [hd] at f3 f4
        split at he
        · cases he
        · next h3 =>
          rw [if_neg h3]
          split at he
          · next h4 => exact absurd he h4
          · next h4 =>
            rw [if_neg h4]
            split at he
            · cases he
            · next h5 =>
              rw [if_neg h5]
              have h4' : (regS 5 8 false vs).1 = 0 := by omega
              obtain ⟨g1, g2⟩ := reg58_len h4'
              have g3 := reg85_len (regS 5 8 false vs).2
              rw [g1] at g3
              have hn : ((vs.length * 5 / 8) * 8 + 4) / 5 = vs.length := by omega
              rw [hn] at g3
              have hfit : fitsB (v.toNat : Int) (regS 5 8 false vs).2.length = true := by cases hq : fitsB (v.toNat : Int) (regS 5 8 false vs).2.length <;> simp_all
              have hbv : b8 ((v.toNat : Nat) : Int) = v := by apply UInt8.toNat_inj.1; exact b8_nat32 _ v.toNat_lt
              simp only [List.length_cons] at f4
              have hseg : segS hrp (v.toNat : Int) (regS 5 8 false vs).2 = (0, hrp ++ [49] ++ letters l32 ((v :: (regS 8 5 true (regS 5 8 false vs).2).2) ++ closeB hrp (v :: (regS 8 5 true (regS 5 8 false vs).2).2) (decide (0 < (v.toNat : Int))))) := by
                unfold segS
                rw [if_neg (by omega), if_neg (by rw [hfit]; simp), hbv]
                refine bechS_good ?_ f2 ?_ _
                · rw [List.length_cons, g3]; omega
                · refine wide_of (fun x hx => ?_)
                  rcases List.mem_cons.1 hx with rfl | hx
                  · exact f3 _ List.mem_cons_self
                  · exact reg85_small _ x hx
              refine ⟨by rw [hseg], ?_, f2, by omega⟩
              rw [hseg]
              show (hrp ++ [49] ++ letters l32 _).length = _
              rw [splitOk_len, List.length_append, closeB_length, List.length_cons, g3]
              omega
end Go.Proofs.YtgiljhdjknglpaaDoor

/-
  text.Checksum, walked. Conditions: the listed table holds what its text lays; sizes within the reach.
-/
namespace Go.Proofs.YtgiljhdjknglpaaDoor
open Go.RowKit

theorem bits_xor1 (c : Nat) (hc : c < 1099511627776) : bits .xor .u64 (c : Int) 1 = ((c ^^^ 1 : Nat) : Int) := bits_xor_u64_nat c 1 (by omega) (by omega)
theorem fives_eight (c : Nat) (hc : c < 1099511627776) : (fivesI (c : Int) 8).map UInt8.toNat = eightOf c := by
  have key : ∀ i, (fiveI (c : Int) (5 * (8 - 1 - i))).toNat = c / 2 ^ (5 * (7 - i)) % 32 := by
    intro i
    have e8 : 8 - 1 - i = 7 - i := by omega
    rw [e8]
    generalize 5 * (7 - i) = d
    have h2 : ((c : Int) / 2 ^ d) = ((c / 2 ^ d : Nat) : Int) := by simp
    have hle : c / 2 ^ d ≤ c := Nat.div_le_self _ _
    unfold fiveI
    rw [h2]
    generalize c / 2 ^ d = e at hle
    have h3 := bits_mask .u64 64 (by decide) wraps_u64 5 (by decide) (e : Int) (by omega) (by omega)
    have e5 : ((2 : Int) ^ 5 - 1) = 31 := by decide
    rw [e5] at h3
    rw [h3]
    have h4 := b8_toNat ((e : Int) % 2 ^ 5)
    omega
  unfold fivesI eightOf
  rw [List.map_map]
  exact List.map_congr_left fun i _ => key i
theorem letters_sum (c : Nat) (hc : c < 1099511627776) : letters l32 (fivesI (c : Int) 8) = sumLetters c := by
  unfold letters sumLetters
  rw [← fives_eight c hc, List.map_map]
  rfl
theorem fives_small (c : Nat) (hc : c < 1099511627776) : ∀ p ∈ fivesI (c : Int) 8, p.toNat < l32.size := by
  intro p hp
  have h : p.toNat ∈ (fivesI (c : Int) 8).map UInt8.toNat := List.mem_map_of_mem hp
  rw [fives_eight c hc] at h
  unfold eightOf at h
  obtain ⟨i, _, hi⟩ := List.mem_map.1 h
  have : l32.size = 32 := by decide
  omega

theorem below_made2 {w w1 : World} {o : Obj} (h : Below (w.alloc o).drew.heap.size (w.alloc o).drew w1) : Below w.heap.size w w1 :=
  (((Below.refl _ w).alloc (Nat.le_refl _) o)).trans ⟨h.os, h.tape, h.output, Nat.le_trans (by simp) h.size, fun k hk => h.block k (Nat.lt_of_lt_of_le hk (by simp))⟩
/-- What Checksum answers. -/
def ChkPost (w : World) (cs : List UInt8) (e : Ending) (w' : World) : Prop :=
  Below w.heap.size w w' ∧ ((∀ c ∈ cs, 0 ≤ posB inB c) ∧ e = .returned (.tuple #[.string ⟨(sumLetters (chkN (natsOf (placesB inB cs)))).toArray⟩, .int .i64 0]) ∨ (∃ c ∈ cs, posB inB c < 0) ∧ e = .returned (.tuple #[.string ⟨#[]⟩, .int .i64 3]))

theorem inB_places {cs : List UInt8} (h : ∀ c ∈ cs, 0 ≤ posB inB c) : ∀ p ∈ natsOf (placesB inB cs), p < 96 := by
  intro p hp
  unfold natsOf placesB at hp
  rw [List.map_map] at hp
  obtain ⟨c, hc, rfl⟩ := List.mem_map.1 hp
  have h0 := h c hc
  obtain ⟨o, ho⟩ : ∃ o : Nat, posB inB c = o := ⟨(posB inB c).toNat, by omega⟩
  have h1 := (List.getElem?_eq_some_iff.1 (Lib.indexByte_some (l := inB.data.toList) (by exact ho)).1).1
  have h2 : inB.data.toList.length = 95 := by decide
  have h3 := b8_toNat (posB inB c)
  show (b8 (posB inB c)).toNat < 96
  omega

set_option maxRecDepth 100000 in
set_option maxHeartbeats 3200000 in
theorem checksum_any (s : ByteArray) (w : World) (hl : s.size ≤ 2000) (hcode : CodeIs w) :
    Calls Tryd.prog 20 #[.string s] w (ChkPost w s.data.toList) := by
  have HC := Lib.hid hcode
  clear hcode
  go_enter Tryd.func20, Tryd.ntmps20
  go_wp2_with fail
  refine (places_any s inB w (by omega) (by decide)).mono ?_
  rintro e w1 ⟨hb1, ⟨hall, rfl, hrow⟩ | ⟨hno, rfl⟩⟩
  · obtain ⟨ps, hps⟩ : ∃ ps, ps = placesB inB s.data.toList := ⟨_, rfl⟩
    have hpl : ps.length = s.data.toList.length := by rw [hps, placesB_length]
    have hsz : s.data.toList.length = s.size := rfl
    have hp96 := inB_places hall
    have hC1 : CodeIs w1 := HC.out.below hb1 HC.out.1
    rw [← hps] at hrow hp96
    have HP := Lib.hid hps
    have H96 := Lib.hid hp96
    have HA := Lib.hid hall
    have HR := Lib.hid hrow
    have HC1 := Lib.hid hC1
    obtain ⟨n, hn⟩ : ∃ n, n = s.data.toList.length := ⟨_, rfl⟩
    rw [← hn] at hpl hsz
    rw [← hn]
    have HN := Lib.hid hn
    have HPL := Lib.hid hpl
    have hn2 : n ≤ 2000 := by omega
    clear hps hp96 hall hrow hC1 hn hpl hsz
    go_wp2_with fail
    go_loopw [20, 6, 7, 8] (fun j cc gg kk wr => ∃ (i : Nat) (c g k : Nat), i ≤ n ∧ j = .int .i64 i ∧ cc = .int .u64 c ∧ gg = .int .u8 g ∧ kk = .int .i64 k ∧ Hid (chkAll ((natsOf ps).take i) = ⟨c, g, k⟩) ∧ ChkOk ⟨c, g, k⟩ ∧ Below w1.heap.size w1 wr) (fun j _ _ _ _ => n - (intOf j).toNat)
    case atStart => exact ⟨0, 1, 0, 0, Nat.zero_le _, rfl, rfl, rfl, rfl, Lib.hid rfl, chkSt0_ok, Below.refl _ _⟩
    case round =>
      obtain ⟨i, c, g, k, hi, rfl, rfl, rfl, rfl, hst, hok, hbel⟩ := hrel
      have hcc := hok.c
      have hk3 := hok.k
      have hg8 := hok.g8
      simp only at hcc hk3 hg8
      by_cases hlt : i < n
      · obtain ⟨q, hq⟩ : ∃ q, ps[i]? = some q := ⟨_, List.getElem?_eq_getElem (by have := HPL.out; omega)⟩
        have hcell : wr.cell? ⟨w.heap.size, i, none⟩ = some (.int .u8 (q.toNat : Int)) := (hbel.cell (p := ⟨w.heap.size, i, none⟩) HR.out.lt).trans (HR.out.cell hq)
        have hq96 : q.toNat < 96 := H96.out _ (by unfold natsOf; exact List.mem_map_of_mem (List.mem_of_getElem? hq))
        obtain ⟨gz, g0, g1, g2, g3, g4, g5⟩ := HC1.out.below hbel HC1.out.1
        have hnext : chkAll ((natsOf ps).take (i + 1)) = chk1 ⟨c, g, k⟩ q.toNat := by rw [chkAll_snoc hq, hst.out]
        have hok2 := chk1_ok hok hq96
        have C1 := Lib.hid (turn_call ((q.toNat : Int) % 32) c wr (by omega) (by omega) hcc)
        have C2 := fun W => Lib.hid (turn_call (3 * (g : Int) + (q.toNat : Int) / 32) (turnN c (q.toNat % 32)) W (by omega) (by omega) (turnN_lt _ _ (by omega)))
        have e1 : ((q.toNat : Int) % 32).toNat = q.toNat % 32 := by omega
        have e2 : (3 * (g : Int) + (q.toNat : Int) / 32).toNat = 3 * g + q.toNat / 32 := by omega
        rw [e1] at C1
        simp only [e2] at C2
        have HB := Lib.hid hbel
        clear hq hst hok e1 e2 hbel
        by_cases hk2 : k = 2
        · subst hk2
          rw [chk1_open] at hnext hok2
          have HN2 := Lib.hid hnext
          have HO := Lib.hid hok2
          clear hnext hok2
          go_wp2_with fail
          refine C1.out.mono ?_
          rintro e w2 ⟨rfl, hb2⟩
          obtain ⟨fz, f0, f1, f2, f3, f4, f5⟩ := (HC1.out.below HB.out HC1.out.1).below hb2 gz
          go_wp2_with fail
          refine (C2 _).out.mono ?_
          rintro e w3 ⟨rfl, hb3⟩
          go_wp2
          refine ⟨⟨i + 1, _, _, _, by omega, by go_num, rfl, rfl, rfl, HN2, HO.out, (HB.out.trans (hb2.mono HB.out.size)).trans (hb3.mono (Nat.le_trans HB.out.size hb2.size))⟩, by simp [intOf]; omega⟩
        · rw [chk1_in _ _ _ (by omega)] at hnext hok2
          have HN2 := Lib.hid hnext
          have HO := Lib.hid hok2
          have hd : ((k : Int) + 1 == 3) = false := by simp; omega
          clear hnext hok2
          go_wp2_with fail
          refine C1.out.mono ?_
          rintro e w2 ⟨rfl, hb2⟩
          go_wp2
          refine ⟨⟨i + 1, _, _, _, by omega, by go_num, rfl, congrArg (Value.int .u8) (by omega), congrArg (Value.int .i64) (by omega), HN2, HO.out, HB.out.trans (hb2.mono HB.out.size)⟩, by simp [intOf]; omega⟩
      · have hie : (natsOf ps).take i = natsOf ps := List.take_of_length_le (by have := HPL.out; unfold natsOf; rw [List.length_map]; omega)
        rw [hie] at hst
        have hend := chkEnd_lt hok
        obtain ⟨ce, hce⟩ : ∃ ce, ce = chkEnd ⟨c, g, k⟩ := ⟨_, rfl⟩
        rw [← hce] at hend
        have HCE := Lib.hid hce
        have HB := Lib.hid hbel
        have HST := Lib.hid hst.out
        have C1 := Lib.hid (turn_call (g : Int) c wr (by omega) (by omega) hcc)
        obtain ⟨gz, g0, g1, g2, g3, g4, g5⟩ := HC1.out.below hbel HC1.out.1
        clear hce hbel hst hok hie
        go_upto_if 46 with fail
        go_cut [6] (fun s6 wx => s6 = .int .u64 (ce : Int) ∧ Below w1.heap.size w1 wx)
        case first =>
          by_cases hk0 : 0 < k
          · have hce : turnN c g = ce := by rw [HCE.out]; unfold chkEnd; rw [if_pos hk0]
            have hgn : ((g : Int)).toNat = g := by omega
            rw [hgn] at C1
            have HCE2 := Lib.hid hce
            clear hce hgn
            go_wp2_with fail
            refine C1.out.mono ?_
            rintro e w2 ⟨rfl, hb2⟩
            go_wp2
            go_meet
            exact ⟨by rw [← HCE2.out], HB.out.trans (hb2.mono HB.out.size)⟩
          · have hce : c = ce := by rw [HCE.out]; unfold chkEnd; rw [if_neg hk0]
            have HCE2 := Lib.hid hce
            clear hce
            go_wp2
            go_meet
            exact ⟨by rw [← HCE2.out], HB.out⟩
        case rest =>
          obtain ⟨rfl, hbw⟩ := hcut
          obtain ⟨gz', g0', g1', g2', g3', g4', g5'⟩ := HC1.out.below hbw HC1.out.1
          have hmk : ∀ W, (Instr.makeSlice 23 (.int .i64 8) (.int .i64 8)).run Tryd.prog W = .ok (.slice (some ⟨W.heap.size, 0, none⟩) 8 8) (W.alloc (.cells (zeroRow 8) 5)) := fun W => make_bytes W 8 8 rfl (by omega)
          have HBW := Lib.hid hbw
          clear hbw C1 HB g0 g1 g2 g3 g4 g5 gz
          have hz : Byt (wc.alloc (.cells (zeroRow 8) 5)).drew (wc.heap.size + 1) (.slice (some ⟨wc.heap.size, 0, none⟩) 8 8) (List.replicate 8 0) := by
            have h := (row_new wc 8).byt (n := 8) (c := 8) (by simp) (by omega) (by unfold maxLen; omega)
            have hs : (wc.alloc (.cells (zeroRow 8) 5)).heap.size = wc.heap.size + 1 := by simp
            rw [hs] at h
            have e : (List.replicate 8 (0 : UInt8)).take 8 = List.replicate 8 0 := rfl
            rw [e] at h
            exact h.keep (fun _ _ _ => rfl)
          have C8 := turns_call _ _ _ ce _ hz (by simp) (by simp) hend
          have e8 : turnsN ce (List.replicate 8 0) = eight ce := rfl
          rw [e8] at C8
          have hx := bits_xor1 (eight ce) (eight_lt ce)
          have hlt := Nat.xor_lt_two_pow (n := 40) (eight_lt ce) (show 1 < 1099511627776 by decide)
          have hN : eight ce ^^^ 1 = chkN (natsOf ps) := by unfold chkN; rw [HST.out, HCE.out]
          rw [hN] at hx hlt
          obtain ⟨z, hz0⟩ : ∃ z, z = chkN (natsOf ps) := ⟨_, rfl⟩
          rw [← hz0] at hx hlt
          have F8 := fun W => fives_any (z : Int) 8 W (by omega) (by omega) (by omega)
          have hfs := fives_small z hlt
          have hfl := letters_sum z hlt
          have C8' := Lib.hid C8
          have HZ0 := Lib.hid hz0
          have HFS := Lib.hid hfs
          have HFL := Lib.hid hfl
          have F8' := Lib.hid F8
          clear C8 e8 hN hz0 hfs hfl F8 hz
          go_wp2_with fail
          go_region_with (go_at_call 41; refine C8'.out.mono ?_; rintro e w2 ⟨rfl, hb2⟩)
          all_goals go_wp2_with fail
          all_goals refine (F8'.out _).mono ?_
          all_goals rintro e w3 ⟨rfl, hr3, hb3⟩
          all_goals have hby := hr3.byt (n := 8) (c := 8) (by simp [fivesI]) (by omega) (by unfold maxLen; omega)
          all_goals rw [List.take_of_length_le (by simp [fivesI])] at hby
          all_goals have S8 := Lib.hid (spell_any _ _ _ l32 w3 hby (Nat.le_refl _) (by simp [fivesI]) HFS.out)
          all_goals clear hby hr3
          all_goals go_wp2_with fail
          all_goals refine S8.out.mono ?_
          all_goals rintro e w4 ⟨rfl, hb4⟩
          all_goals rw [HFL.out]
          all_goals go_wp2
          all_goals go_ret2
          all_goals refine ⟨?_, .inl ⟨?_, ?_⟩⟩
          all_goals first
            | exact ((((hb1.trans (HBW.out.mono hb1.size)).trans ((below_made2 hb2).mono (Nat.le_trans hb1.size HBW.out.size))).trans (hb3.mono (Nat.le_trans (Nat.le_trans hb1.size HBW.out.size) (below_made2 hb2).size))).trans (hb4.mono (Nat.le_trans (Nat.le_trans (Nat.le_trans hb1.size HBW.out.size) (below_made2 hb2).size) hb3.size)))
            | exact HA.out
            | (rw [HZ0.out, HP.out]; rfl)
  · have HNO := Lib.hid hno
    clear hno
    go_wp2
    go_ret2
    exact ⟨hb1, .inr ⟨HNO.out, rfl⟩⟩
end Go.Proofs.YtgiljhdjknglpaaDoor

/-
  text.lastXor, text.sum32: the six values of a bech32 checksum. Conditions: the listed table holds what its text lays; sizes within the reach.
-/
namespace Go.Proofs.YtgiljhdjknglpaaDoor
open Go.RowKit

theorem cell_past {w : World} {o : Obj} {a : Addr} {v : Value} (h : w.cell? a = some v) : (w.alloc o).cell? a = some v := (World.cell?_alloc_lt w _ _ (World.block_lt_of_cell? _ _ h)).trans h

/-- One value, boxed, behind a draw. -/
theorem turnb_drew (q : Int) (c : Nat) (w : World) (h0 : 0 ≤ q) (h1 : q < 256) (hc : c < 1073741824) :
    Calls Tryd.prog 41 #[.agg #[.int .i64 25, .int .u64 996825010, .int .u64 642813549, .int .u64 513874426, .int .u64 1027748829, .int .u64 705979059], .int .u64 c, .slice (some ⟨w.heap.size, 0, none⟩) 1 1] (w.alloc (.cells #[.int .u8 q] 5)).drew
      fun e w' => e = .returned (.int .u64 ((turnB c q.toNat : Nat) : Int)) ∧ Below w.heap.size w w' := by
  have hm : Byt (w.alloc (.cells #[.int .u8 q] 5)) (w.heap.size + 1) (.slice (some ⟨w.heap.size, 0, none⟩) 1 1) [b8 q] :=
    Byt.made w _ [_] [b8 q] (by rw [List.map_cons, List.map_nil, bv_b8_of h0 h1]) (by unfold maxLen; simp)
  refine (turnsb_call _ _ [b8 q] c (w.alloc (.cells #[.int .u8 q] 5)).drew (hm.keep (fun _ _ _ => rfl)) (by simp) (by simp) hc).mono ?_
  rintro e w' ⟨rfl, hb⟩
  refine ⟨?_, below_made2 hb⟩
  have : (b8 q).toNat = q.toNat := by have := b8_toNat q; omega
  unfold turnsB
  rw [List.foldl_cons, List.foldl_nil, this]

theorem lastXor_any (m : Bool) (w : World) : Calls Tryd.prog 48 #[.bool m] w fun e w' => e = .returned (.int .u64 ((lastX m : Nat) : Int)) ∧ w = w' := by
  cases m
  · go_enter Tryd.func48, Tryd.ntmps48
    go_wp2
    go_ret
    exact ⟨rfl, rfl⟩
  · go_enter Tryd.func48, Tryd.ntmps48
    go_wp2
    go_ret
    exact ⟨rfl, rfl⟩

/-- The numbers of a part, divided and left. -/
def hiS (h : List UInt8) : List UInt8 := h.map (fun b => b8 ((b.toNat / 32 : Nat) : Int))
def loS (h : List UInt8) : List UInt8 := h.map (fun b => b8 ((b.toNat % 32 : Nat) : Int))
theorem hi_take {h : List UInt8} {i : Nat} {q : UInt8} (hq : h[i]? = some q) (c : Nat) : turnsB c (hiS (h.take (i + 1))) = turnB (turnsB c (hiS (h.take i))) (q.toNat / 32) := by
  have hl := q.toNat_lt
  unfold hiS
  rw [List.take_add_one, hq, List.map_append, turnsB_append]
  show turnB _ (b8 ((q.toNat / 32 : Nat) : Int)).toNat = _
  rw [b8_nat32 _ (by omega)]
theorem lo_take {h : List UInt8} {i : Nat} {q : UInt8} (hq : h[i]? = some q) (c : Nat) : turnsB c (loS (h.take (i + 1))) = turnB (turnsB c (loS (h.take i))) (q.toNat % 32) := by
  have hl := q.toNat_lt
  unfold loS
  rw [List.take_add_one, hq, List.map_append, turnsB_append]
  show turnB _ (b8 ((q.toNat % 32 : Nat) : Int)).toNat = _
  rw [b8_nat32 _ (by omega)]
theorem sum_parts (h d : List UInt8) : turnsB (turnsB (turnB (turnsB 1 (hiS h)) 0) (loS h)) d = sumB h d := by
  unfold sumB expandB
  rw [turnsB_append, turnsB_append]
  rfl
theorem six_fives (c : Nat) (hc : c < 1073741824) : fivesI (c : Int) 6 = sixOf c := by
  unfold fivesI sixOf
  apply List.map_congr_left
  intro i _
  have e8 : 6 - 1 - i = 5 - i := by omega
  rw [e8]
  generalize 5 * (5 - i) = d
  have h2 : ((c : Int) / 2 ^ d) = ((c / 2 ^ d : Nat) : Int) := by simp
  have hle : c / 2 ^ d ≤ c := Nat.div_le_self _ _
  unfold fiveI
  rw [h2]
  generalize c / 2 ^ d = e at hle
  have h3 := bits_mask .u64 64 (by decide) wraps_u64 5 (by decide) (e : Int) (by omega) (by omega)
  have e5 : ((2 : Int) ^ 5 - 1) = 31 := by decide
  rw [e5] at h3
  rw [h3]
  congr 1

set_option maxRecDepth 100000 in
set_option maxHeartbeats 6400000 in
theorem sum32_any (B : Nat) (s : ByteArray) (x : Value) (d : List UInt8) (m : Bool) (w : World) (hc : BechIs w) (hx : Byt w B x d) (hB : B ≤ w.heap.size) (hs : s.size ≤ 60000) (hl : d.length ≤ 60000) :
    Calls Tryd.prog 24 #[.string s, x, .bool m] w fun e w' => ∃ g, e = .returned (.slice (some ⟨g, 0, none⟩) 6 6) ∧ w.heap.size ≤ g ∧ Row w' g (closeB s.data.toList d m) ∧ Below w.heap.size w w' := by
  obtain ⟨A, cx, hxf⟩ := hx.form
  subst hxf
  have HX := Lib.hid hx
  have HC := Lib.hid hc
  obtain ⟨h, hh⟩ : ∃ h, h = s.data.toList := ⟨_, rfl⟩
  have hhs : h.length = s.size := by rw [hh]; rfl
  rw [← hh]
  have HH := Lib.hid hh
  have HHS := Lib.hid hhs
  obtain ⟨L, hL⟩ : ∃ L, L = closeB h d m := ⟨_, rfl⟩
  rw [← hL]
  have HL := Lib.hid hL
  have hlo : ∀ q : UInt8, bits .and .u8 (q.toNat : Int) 31 = ((q.toNat % 32 : Nat) : Int) := fun q => by
    have hq := q.toNat_lt
    have h3 := bits_mask .u8 8 (by decide) wraps_u8 5 (by decide) (q.toNat : Int) (by omega) (by omega)
    have e5 : ((2 : Int) ^ 5 - 1) = 31 := by decide
    rw [e5] at h3
    rw [h3]
    omega
  clear hx hc hh hhs hL
  go_enter Tryd.func24, Tryd.ntmps24
  go_wp2_with fail
  go_loopw [12, 7] (fun j cc wr => ∃ i : Nat, i ≤ s.size ∧ j = .int .i64 i ∧ cc = .int .u64 ((turnsB 1 (hiS (h.take i)) : Nat) : Int) ∧ Below w.heap.size w wr) (fun j _ _ => s.size - (intOf j).toNat)
  case atStart => exact ⟨0, Nat.zero_le _, rfl, rfl, Below.refl _ _⟩
  case round =>
    obtain ⟨i, hi, rfl, rfl, hbel⟩ := hrel
    by_cases hlt : i < s.size
    · obtain ⟨q, hq⟩ : ∃ q, q = s[i]'hlt := ⟨_, rfl⟩
      have hqi : h[i]? = some q := by rw [HH.out, hq]; exact Lib.data_getElem? s i hlt
      have hq256 := q.toNat_lt
      have hnext := hi_take hqi 1
      obtain ⟨c, hcc⟩ : ∃ c, c = turnsB 1 (hiS (h.take i)) := ⟨_, rfl⟩
      have hc30 : c < 1073741824 := by rw [hcc]; exact turnsB_lt _ _ (by omega)
      rw [← hcc] at hnext
      rw [← hcc]
      have HN := Lib.hid hnext
      have HB := Lib.hid hbel
      obtain ⟨gz, g0, g1, g2, g3, g4, g5⟩ := HC.out.below HB.out HC.out.1
      have C1 := Lib.hid (turnb_drew ((q.toNat : Int) / 32) c wr (by omega) (by omega) hc30)
      have hw1 : IntKind.u8.wrap ((q.toNat : Int) / 32) = (q.toNat : Int) / 32 := by rw [IntKind.wrap_u8]; omega
      have hqs : (s[i]'hlt) = q := hq.symm
      clear hbel hnext hqi hcc hq
      go_wp2_with fail
      refine wp_region_held_drew (S := (fun w' => w'.cell? ⟨1, 0, none⟩ = some (.int .i64 25) ∧ w'.cell? ⟨1, 1, none⟩ = some (.int .u64 996825010) ∧ w'.cell? ⟨1, 2, none⟩ = some (.int .u64 642813549) ∧ w'.cell? ⟨1, 3, none⟩ = some (.int .u64 513874426) ∧ w'.cell? ⟨1, 4, none⟩ = some (.int .u64 1027748829) ∧ w'.cell? ⟨1, 5, none⟩ = some (.int .u64 705979059))) (by kernel_rfl) ?_ (fun hHeld => ?_)
      · exact ⟨g0, g1, g2, g3, g4, g5⟩
      refine wpAnyH_take (i := 0) (oi := { dst := some 15, op := Go.Op.load 70 (Go.Operand.global 1), type := 70, pos := "bech32.go:91", after := #[], guard := none }) (v := ?a5v0) rfl (by kernel_rfl) (by kernel_rfl) (by kernel_rfl) (fun _ _ _ h => h) (Or.inl ⟨by rfl, ?a5y0⟩) (by assumption) ?a5r0
      case a5y0 => (intro w hSw; (try dsimp only at hSw); go_simp; try (with_reducible rfl))
      case a5r0 =>
      try simp only [Act.put, List.setIfInBounds_toArray, List.set_cons_zero, List.set_cons_succ]
      refine wpAnyH_take (i := 1) (oi := { dst := some 16, op := Go.Op.move (Go.Operand.tmp 7), type := 52, pos := "bech32.go:91", after := #[], guard := none }) (v := ?a5v1) rfl (by kernel_rfl) (by kernel_rfl) (by kernel_rfl) (fun _ _ _ h => h) (Or.inl ⟨by rfl, ?a5y1⟩) (by assumption) ?a5r1
      case a5y1 => (intro w hSw; (try dsimp only at hSw); go_simp; try (with_reducible rfl))
      case a5r1 =>
      try simp only [Act.put, List.setIfInBounds_toArray, List.set_cons_zero, List.set_cons_succ]
      refine wpAnyH_take (i := 2) (oi := { dst := some 17, op := Go.Op.move (Go.Operand.tmp 0), type := 9, pos := "bech32.go:91", after := #[], guard := none }) (v := ?a5v2) rfl (by kernel_rfl) (by kernel_rfl) (by kernel_rfl) (fun _ _ _ h => h) (Or.inl ⟨by rfl, ?a5y2⟩) (by assumption) ?a5r2
      case a5y2 => (intro w hSw; (try dsimp only at hSw); go_simp; try (with_reducible rfl))
      case a5r2 =>
      try simp only [Act.put, List.setIfInBounds_toArray, List.set_cons_zero, List.set_cons_succ]
      refine wpAnyH_take (i := 3) (oi := { dst := some 18, op := Go.Op.move (Go.Operand.tmp 8), type := 3, pos := "bech32.go:91", after := #[], guard := none }) (v := ?a5v3) rfl (by kernel_rfl) (by kernel_rfl) (by kernel_rfl) (fun _ _ _ h => h) (Or.inl ⟨by rfl, ?a5y3⟩) (by assumption) ?a5r3
      case a5y3 => (intro w hSw; (try dsimp only at hSw); go_simp; try (with_reducible rfl))
      case a5r3 =>
      try simp only [Act.put, List.setIfInBounds_toArray, List.set_cons_zero, List.set_cons_succ]
      refine wpAnyH_take (i := 4) (oi := { dst := some 19, op := Go.Op.index 9 (Go.Operand.tmp 17) (Go.Operand.tmp 18), type := 5, pos := "bech32.go:91", after := #[{ on := 2, ground := Go.Ground.data }, { on := 3, ground := Go.Ground.data }], guard := none }) (v := ?a5v4) rfl (by kernel_rfl) (by kernel_rfl) (by kernel_rfl) (fun _ _ _ h => h) (Or.inl ⟨by rfl, ?a5y4⟩) (by assumption) ?a5r4
      case a5y4 => (intro w hSw; (try dsimp only at hSw); go_simp; try (with_reducible rfl))
      case a5r4 =>
      try simp only [Act.put, List.setIfInBounds_toArray, List.set_cons_zero, List.set_cons_succ]
      refine wpAnyH_take (i := 5) (oi := { dst := some 20, op := Go.Op.binOp Go.BinOp.shr 5 (Go.Operand.tmp 19) (Go.Operand.const (Go.Value.int Go.IntKind.u64 5)) 58, type := 5, pos := "bech32.go:91", after := #[{ on := 4, ground := Go.Ground.data }], guard := none }) (v := ?a5v5) rfl (by kernel_rfl) (by kernel_rfl) (by kernel_rfl) (fun _ _ _ h => h) (Or.inl ⟨by rfl, ?a5y5⟩) (by assumption) ?a5r5
      case a5y5 => (intro w hSw; (try dsimp only at hSw); go_simp; try (with_reducible rfl))
      case a5r5 =>
      try simp only [Act.put, List.setIfInBounds_toArray, List.set_cons_zero, List.set_cons_succ]
      refine wpAnyH_ready (rs := [6]) (by kernel_rfl) (by simp) ?_
      refine AllReadyH.cons (o := { dst := some 21, op := Go.Op.buildSlice 23 1 #[(0, Go.Operand.tmp 20)], type := 23, pos := "bech32.go:91", after := #[{ on := 5, ground := Go.Ground.data }], guard := none }) rfl (fun K hK => ?_) (AllReadyH.nil)
      go_simp
      refine hK.out _ _ ?_ (fun hHeld => ?_)
      · exact ⟨cell_past g0, cell_past g1, cell_past g2, cell_past g3, cell_past g4, cell_past g5⟩
      clear hK K
      try simp only [Act.put, List.setIfInBounds_toArray, List.set_cons_zero, List.set_cons_succ]
      refine wpAnyH_ready (rs := [7]) (by kernel_rfl) (by simp) ?_
      refine AllReadyH.cons (o := { dst := some 22, op := Go.Op.call { callee := Go.Callee.value (Go.Operand.func 41), args := #[Go.Operand.tmp 15, Go.Operand.tmp 16, Go.Operand.tmp 21], argTypes := #[70, 52, 23] }, type := 52, pos := "bech32.go:91", after := #[{ on := 0, ground := Go.Ground.data }, { on := 1, ground := Go.Ground.data }, { on := 6, ground := Go.Ground.data }], guard := none }) rfl (fun K hK => ?_) (AllReadyH.nil)
      go_simp
      refine C1.out.mono ?_
      rintro e w2 ⟨rfl, hb2⟩
      obtain ⟨fz, f0, f1, f2, f3, f4, f5⟩ := (HC.out.below HB.out HC.out.1).below hb2 gz
      go_simp
      refine hK.out _ _ ?_ (fun hHeld => ?_)
      · exact ⟨f0, f1, f2, f3, f4, f5⟩
      clear hK K
      try simp only [Act.put, List.setIfInBounds_toArray, List.set_cons_zero, List.set_cons_succ]
      refine wpAnyH_take (i := 8) (oi := { dst := some 7, op := Go.Op.assign (Go.Operand.tmp 22), type := 52, pos := "bech32.go:91", after := #[{ on := 7, ground := Go.Ground.data }, { on := 7, ground := Go.Ground.chain }, { on := 0, ground := Go.Ground.phase }, { on := 1, ground := Go.Ground.phase }, { on := 2, ground := Go.Ground.phase }, { on := 3, ground := Go.Ground.phase }, { on := 4, ground := Go.Ground.phase }, { on := 5, ground := Go.Ground.phase }, { on := 6, ground := Go.Ground.phase }, { on := 7, ground := Go.Ground.phase }], guard := none }) (v := ?a5_6_7v8) rfl (by kernel_rfl) (by kernel_rfl) (by kernel_rfl) (fun _ _ _ h => h) (Or.inl ⟨by rfl, ?a5_6_7y8⟩) (by assumption) ?a5_6_7r8
      case a5_6_7y8 => (intro w hSw; (try dsimp only at hSw); go_simp; try (with_reducible rfl))
      case a5_6_7r8 =>
      try simp only [Act.put, List.setIfInBounds_toArray, List.set_cons_zero, List.set_cons_succ]
      refine wpAnyH_done (by kernel_rfl) ?_ _
      go_wp2
      refine ⟨⟨i + 1, by omega, by go_num, ?_, HB.out.trans (hb2.mono HB.out.size)⟩, by simp [intOf]; omega⟩
      rw [HN.out]
      congr 2
    · have hie : h.take i = h := List.take_of_length_le (by have := HHS.out; omega)
      rw [hie]
      obtain ⟨c, hcc⟩ : ∃ c, c = turnsB 1 (hiS h) := ⟨_, rfl⟩
      have hc30 : c < 1073741824 := by rw [hcc]; exact turnsB_lt _ _ (by omega)
      rw [← hcc]
      have HCC := Lib.hid hcc
      have HB := Lib.hid hbel
      obtain ⟨gz, g0, g1, g2, g3, g4, g5⟩ := HC.out.below HB.out HC.out.1
      have C0 := Lib.hid (turnb_call 0 c wr (by omega) (by omega) hc30)
      clear hie hcc hbel
      go_wp2_with fail
      refine C0.out.mono ?_
      rintro e w1 ⟨rfl, hb1⟩
      obtain ⟨c1, hc1⟩ : ∃ c1, c1 = turnB c (0 : Int).toNat := ⟨_, rfl⟩
      have hc1l : c1 < 1073741824 := by rw [hc1]; exact turnB_lt _ _ (by decide)
      rw [← hc1]
      have HC1 := Lib.hid hc1
      have HB1 := Lib.hid (HB.out.trans (hb1.mono HB.out.size))
      clear hc1 hb1 HB C0 g0 g1 g2 g3 g4 g5 gz
      go_wp2_with fail
      go_loopw [30, 7] (fun j cc wr => ∃ i : Nat, i ≤ s.size ∧ j = .int .i64 i ∧ cc = .int .u64 ((turnsB c1 (loS (h.take i)) : Nat) : Int) ∧ Below w.heap.size w wr) (fun j _ _ => s.size - (intOf j).toNat)
      case atStart => exact ⟨0, Nat.zero_le _, rfl, rfl, HB1.out⟩
      case round =>
        obtain ⟨i, hi, rfl, rfl, hbel⟩ := hrel
        by_cases hlt : i < s.size
        · obtain ⟨q, hq⟩ : ∃ q, q = s[i]'hlt := ⟨_, rfl⟩
          have hqi : h[i]? = some q := by rw [HH.out, hq]; exact Lib.data_getElem? s i hlt
          have hq256 := q.toNat_lt
          have hnext := lo_take hqi c1
          obtain ⟨c, hcc⟩ : ∃ c, c = turnsB c1 (loS (h.take i)) := ⟨_, rfl⟩
          have hc30 : c < 1073741824 := by rw [hcc]; exact turnsB_lt _ _ hc1l
          rw [← hcc] at hnext
          rw [← hcc]
          have HN := Lib.hid hnext
          have HB := Lib.hid hbel
          obtain ⟨gz, g0, g1, g2, g3, g4, g5⟩ := HC.out.below HB.out HC.out.1
          have C1 := Lib.hid (turnb_drew ((q.toNat : Int) % 32) c wr (by omega) (by omega) hc30)
          have hw1 : bits .and .u8 (q.toNat : Int) 31 = (q.toNat : Int) % 32 := by rw [hlo]; omega
          have hqs : (s[i]'hlt) = q := hq.symm
          clear hbel hnext hqi hcc hq
          go_wp2_with fail
          refine wp_region_held_drew (S := (fun w' => w'.cell? ⟨1, 0, none⟩ = some (.int .i64 25) ∧ w'.cell? ⟨1, 1, none⟩ = some (.int .u64 996825010) ∧ w'.cell? ⟨1, 2, none⟩ = some (.int .u64 642813549) ∧ w'.cell? ⟨1, 3, none⟩ = some (.int .u64 513874426) ∧ w'.cell? ⟨1, 4, none⟩ = some (.int .u64 1027748829) ∧ w'.cell? ⟨1, 5, none⟩ = some (.int .u64 705979059))) (by kernel_rfl) ?_ (fun hHeld => ?_)
          · exact ⟨g0, g1, g2, g3, g4, g5⟩
          refine wpAnyH_take (i := 0) (oi := { dst := some 33, op := Go.Op.load 70 (Go.Operand.global 1), type := 70, pos := "bech32.go:95", after := #[], guard := none }) (v := ?a11v0) rfl (by kernel_rfl) (by kernel_rfl) (by kernel_rfl) (fun _ _ _ h => h) (Or.inl ⟨by rfl, ?a11y0⟩) (by assumption) ?a11r0
          case a11y0 => (intro w hSw; (try dsimp only at hSw); go_simp; try (with_reducible rfl))
          case a11r0 =>
          try simp only [Act.put, List.setIfInBounds_toArray, List.set_cons_zero, List.set_cons_succ]
          refine wpAnyH_take (i := 1) (oi := { dst := some 34, op := Go.Op.move (Go.Operand.tmp 7), type := 52, pos := "bech32.go:95", after := #[], guard := none }) (v := ?a11v1) rfl (by kernel_rfl) (by kernel_rfl) (by kernel_rfl) (fun _ _ _ h => h) (Or.inl ⟨by rfl, ?a11y1⟩) (by assumption) ?a11r1
          case a11y1 => (intro w hSw; (try dsimp only at hSw); go_simp; try (with_reducible rfl))
          case a11r1 =>
          try simp only [Act.put, List.setIfInBounds_toArray, List.set_cons_zero, List.set_cons_succ]
          refine wpAnyH_take (i := 2) (oi := { dst := some 35, op := Go.Op.move (Go.Operand.tmp 0), type := 9, pos := "bech32.go:95", after := #[], guard := none }) (v := ?a11v2) rfl (by kernel_rfl) (by kernel_rfl) (by kernel_rfl) (fun _ _ _ h => h) (Or.inl ⟨by rfl, ?a11y2⟩) (by assumption) ?a11r2
          case a11y2 => (intro w hSw; (try dsimp only at hSw); go_simp; try (with_reducible rfl))
          case a11r2 =>
          try simp only [Act.put, List.setIfInBounds_toArray, List.set_cons_zero, List.set_cons_succ]
          refine wpAnyH_take (i := 3) (oi := { dst := some 36, op := Go.Op.move (Go.Operand.tmp 9), type := 3, pos := "bech32.go:95", after := #[], guard := none }) (v := ?a11v3) rfl (by kernel_rfl) (by kernel_rfl) (by kernel_rfl) (fun _ _ _ h => h) (Or.inl ⟨by rfl, ?a11y3⟩) (by assumption) ?a11r3
          case a11y3 => (intro w hSw; (try dsimp only at hSw); go_simp; try (with_reducible rfl))
          case a11r3 =>
          try simp only [Act.put, List.setIfInBounds_toArray, List.set_cons_zero, List.set_cons_succ]
          refine wpAnyH_take (i := 4) (oi := { dst := some 37, op := Go.Op.index 9 (Go.Operand.tmp 35) (Go.Operand.tmp 36), type := 5, pos := "bech32.go:95", after := #[{ on := 2, ground := Go.Ground.data }, { on := 3, ground := Go.Ground.data }], guard := none }) (v := ?a11v4) rfl (by kernel_rfl) (by kernel_rfl) (by kernel_rfl) (fun _ _ _ h => h) (Or.inl ⟨by rfl, ?a11y4⟩) (by assumption) ?a11r4
          case a11y4 => (intro w hSw; (try dsimp only at hSw); go_simp; try (with_reducible rfl))
          case a11r4 =>
          try simp only [Act.put, List.setIfInBounds_toArray, List.set_cons_zero, List.set_cons_succ]
          refine wpAnyH_take (i := 5) (oi := { dst := some 38, op := Go.Op.binOp Go.BinOp.and 5 (Go.Operand.tmp 37) (Go.Operand.const (Go.Value.int Go.IntKind.u8 31)) 5, type := 5, pos := "bech32.go:95", after := #[{ on := 4, ground := Go.Ground.data }], guard := none }) (v := ?a11v5) rfl (by kernel_rfl) (by kernel_rfl) (by kernel_rfl) (fun _ _ _ h => h) (Or.inl ⟨by rfl, ?a11y5⟩) (by assumption) ?a11r5
          case a11y5 => (intro w hSw; (try dsimp only at hSw); go_simp; try (with_reducible rfl))
          case a11r5 =>
          try simp only [Act.put, List.setIfInBounds_toArray, List.set_cons_zero, List.set_cons_succ]
          refine wpAnyH_ready (rs := [6]) (by kernel_rfl) (by simp) ?_
          refine AllReadyH.cons (o := { dst := some 39, op := Go.Op.buildSlice 23 1 #[(0, Go.Operand.tmp 38)], type := 23, pos := "bech32.go:95", after := #[{ on := 5, ground := Go.Ground.data }], guard := none }) rfl (fun K hK => ?_) (AllReadyH.nil)
          go_simp
          refine hK.out _ _ ?_ (fun hHeld => ?_)
          · exact ⟨cell_past g0, cell_past g1, cell_past g2, cell_past g3, cell_past g4, cell_past g5⟩
          clear hK K
          try simp only [Act.put, List.setIfInBounds_toArray, List.set_cons_zero, List.set_cons_succ]
          refine wpAnyH_ready (rs := [7]) (by kernel_rfl) (by simp) ?_
          refine AllReadyH.cons (o := { dst := some 40, op := Go.Op.call { callee := Go.Callee.value (Go.Operand.func 41), args := #[Go.Operand.tmp 33, Go.Operand.tmp 34, Go.Operand.tmp 39], argTypes := #[70, 52, 23] }, type := 52, pos := "bech32.go:95", after := #[{ on := 0, ground := Go.Ground.data }, { on := 1, ground := Go.Ground.data }, { on := 6, ground := Go.Ground.data }], guard := none }) rfl (fun K hK => ?_) (AllReadyH.nil)
          go_simp
          refine C1.out.mono ?_
          rintro e w2 ⟨rfl, hb2⟩
          obtain ⟨fz, f0, f1, f2, f3, f4, f5⟩ := (HC.out.below HB.out HC.out.1).below hb2 gz
          go_simp
          refine hK.out _ _ ?_ (fun hHeld => ?_)
          · exact ⟨f0, f1, f2, f3, f4, f5⟩
          clear hK K
          try simp only [Act.put, List.setIfInBounds_toArray, List.set_cons_zero, List.set_cons_succ]
          refine wpAnyH_take (i := 8) (oi := { dst := some 7, op := Go.Op.assign (Go.Operand.tmp 40), type := 52, pos := "bech32.go:95", after := #[{ on := 7, ground := Go.Ground.data }, { on := 7, ground := Go.Ground.chain }, { on := 0, ground := Go.Ground.phase }, { on := 1, ground := Go.Ground.phase }, { on := 2, ground := Go.Ground.phase }, { on := 3, ground := Go.Ground.phase }, { on := 4, ground := Go.Ground.phase }, { on := 5, ground := Go.Ground.phase }, { on := 6, ground := Go.Ground.phase }, { on := 7, ground := Go.Ground.phase }], guard := none }) (v := ?a11_6_7v8) rfl (by kernel_rfl) (by kernel_rfl) (by kernel_rfl) (fun _ _ _ h => h) (Or.inl ⟨by rfl, ?a11_6_7y8⟩) (by assumption) ?a11_6_7r8
          case a11_6_7y8 => (intro w hSw; (try dsimp only at hSw); go_simp; try (with_reducible rfl))
          case a11_6_7r8 =>
          try simp only [Act.put, List.setIfInBounds_toArray, List.set_cons_zero, List.set_cons_succ]
          refine wpAnyH_done (by kernel_rfl) ?_ _
          go_wp2
          refine ⟨⟨i + 1, by omega, by go_num, ?_, HB.out.trans (hb2.mono HB.out.size)⟩, by simp [intOf]; omega⟩
          rw [HN.out]
          congr 2
        · have hie : h.take i = h := List.take_of_length_le (by have := HHS.out; omega)
          rw [hie]
          obtain ⟨c2, hc2⟩ : ∃ c2, c2 = turnsB c1 (loS h) := ⟨_, rfl⟩
          have hc2l : c2 < 1073741824 := by rw [hc2]; exact turnsB_lt _ _ hc1l
          rw [← hc2]
          have HC2 := Lib.hid hc2
          have HB := Lib.hid hbel
          obtain ⟨gz, g0, g1, g2, g3, g4, g5⟩ := HC.out.below HB.out HC.out.1
          have C3 := Lib.hid (turnsb_call B _ d c2 wr (HX.out.below (HB.out.mono hB)) (by have := HB.out.size; omega) hl hc2l)
          clear hie hc2 hbel
          go_wp2_with fail
          refine C3.out.mono ?_
          rintro e w3 ⟨rfl, hb3⟩
          obtain ⟨c3, hc3⟩ : ∃ c3, c3 = turnsB c2 d := ⟨_, rfl⟩
          have hc3l : c3 < 1073741824 := by rw [hc3]; exact turnsB_lt _ _ hc2l
          rw [← hc3]
          have HC3 := Lib.hid hc3
          have HB3 := Lib.hid (HB.out.trans (hb3.mono HB.out.size))
          have hs3 := HB3.out.size
          clear hc3 hb3 C3 g0 g1 g2 g3 g4 g5 gz
          obtain ⟨gz, g0, g1, g2, g3, g4, g5⟩ := HC.out.below HB3.out HC.out.1
          have hmk : ∀ W, (Instr.makeSlice 23 (.int .i64 6) (.int .i64 6)).run Tryd.prog W = .ok (.slice (some ⟨W.heap.size, 0, none⟩) 6 6) (W.alloc (.cells (zeroRow 6) 5)) := fun W => make_bytes W 6 6 rfl (by omega)
          have hz : Byt (w3.alloc (.cells (zeroRow 6) 5)).drew (w3.heap.size + 1) (.slice (some ⟨w3.heap.size, 0, none⟩) 6 6) (List.replicate 6 0) := by
            have h := (row_new w3 6).byt (n := 6) (c := 6) (by simp) (by omega) (by unfold maxLen; omega)
            have hs : (w3.alloc (.cells (zeroRow 6) 5)).heap.size = w3.heap.size + 1 := by simp
            rw [hs] at h
            have e : (List.replicate 6 (0 : UInt8)).take 6 = List.replicate 6 0 := rfl
            rw [e] at h
            exact h.keep (fun _ _ _ => rfl)
          have C4 := Lib.hid (turnsb_call _ _ _ c3 _ hz (by simp) (by simp) hc3l)
          obtain ⟨c4, hc4⟩ : ∃ c4, c4 = turnsB c3 (List.replicate 6 0) := ⟨_, rfl⟩
          have hc4l : c4 < 1073741824 := by rw [hc4]; exact turnsB_lt _ _ hc3l
          rw [← hc4] at C4
          have HC4 := Lib.hid hc4
          have hx := bits_xor_u64_nat c4 (lastX m) (by omega) (by have := lastX_lt m; omega)
          obtain ⟨z, hz0⟩ : ∃ z, z = c4 ^^^ lastX m := ⟨_, rfl⟩
          have hzl : z < 1073741824 := by rw [hz0]; exact Nat.xor_lt_two_pow (n := 30) hc4l (lastX_lt m)
          rw [← hz0] at hx
          have HZ0 := Lib.hid hz0
          have HLX := Lib.hid (fun W => lastXor_any m W)
          have HF := Lib.hid (fun W => fives_any (z : Int) 6 W (by omega) (by omega) (by omega))
          have HX6 := Lib.hid hx
          clear hz hc4 hz0 hx
          go_wp2_with fail
          go_region_with (go_at_call 41; refine C4.out.mono ?_; rintro e w4 ⟨rfl, hb4⟩)
          all_goals go_wp2_with fail
          all_goals refine (HLX.out _).mono ?_
          all_goals rintro e w5 ⟨rfl, rfl⟩
          all_goals have hx := HX6.out
          all_goals go_wp2_with fail
          all_goals refine (HF.out _).mono ?_
          all_goals rintro e w6 ⟨rfl, hr6, hb6⟩
          all_goals have hb34 := below_made2 hb4
          all_goals have hs4 := hb34.size
          all_goals have HR := Lib.hid hr6
          all_goals have HB6 := Lib.hid ((HB3.out.trans (hb34.mono hs3)).trans (hb6.mono (Nat.le_trans hs3 hs4)))
          all_goals clear hr6 hb6 hb34 hx
          all_goals go_wp2
          all_goals go_ret
          all_goals refine ⟨_, rfl, Nat.le_trans hs3 hs4, ?_, HB6.out⟩
          all_goals (have hr := HR.out; rw [six_fives z hzl, HZ0.out, HC4.out, HC3.out, HC2.out, HC1.out, HCC.out] at hr)
          all_goals (rw [HL.out]; unfold closeB; rw [← sum_parts, turnsB_append]; exact hr)
end Go.Proofs.YtgiljhdjknglpaaDoor
