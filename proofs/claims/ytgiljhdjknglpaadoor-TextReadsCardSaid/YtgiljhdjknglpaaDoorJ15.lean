/-
  Texts joined: B58, TGrp, BcSegw. Conditions: those of each.
-/
import Derived.Test.YtgiljhdjknglpaaDoorJ10
import Derived.Test.YtgiljhdjknglpaaDoorJ6
import Derived.Test.YtgiljhdjknglpaaDoorJ14
import Derived.Test.YtgiljhdjknglpaaDoorJ12
import Derived.Test.YtgiljhdjknglpaaDoorJ7
import Derived.Test.YtgiljhdjknglpaaDoorJ11
/-
  text.Base58; and the fixed fact of the laws on texts comes out true. Conditions: the listed table holds what its text lays; sizes within the reach.
-/
namespace Go.Proofs.YtgiljhdjknglpaaDoor
open Go.RowKit

def b58D : ByteArray := ⟨#[49, 50, 51, 52, 53, 54, 55, 56, 57, 65, 66, 67, 68, 69, 70, 71, 72, 74, 75, 76, 77, 78, 80, 81, 82, 83, 84, 85, 86, 87, 88, 89, 90, 97, 98, 99, 100, 101, 102, 103, 104, 105, 106, 107, 109, 110, 111, 112, 113, 114, 115, 116, 117, 118, 119, 120, 121, 122]⟩
theorem reb_small {b f : Nat} {ds out : List UInt8} (h : RebOf b f ds out) (h0 : 0 < b) (h1 : b ≤ 256) : ∀ d ∈ out, d.toNat < b := by
  obtain ⟨asc, ⟨k, rfl, _, _⟩, rfl⟩ := h
  intro d hd
  rcases List.mem_append.1 hd with h | h
  · rw [List.eq_of_mem_replicate h]
    exact h0
  · rw [List.mem_reverse] at h
    unfold digitsL at h
    obtain ⟨j, _, rfl⟩ := List.mem_map.1 h
    rw [digN_nat h0 h1]
    exact Nat.mod_lt _ h0
theorem reb_length {b f : Nat} {ds out : List UInt8} (h : RebOf b f ds out) (hb : 2 ≤ b) (hf : f ≤ 256) (hf0 : 0 < f) (hd : ∀ d ∈ ds, d.toNat < f) : out.length ≤ 9 * ds.length := by
  obtain ⟨asc, ha, rfl⟩ := h
  have h1 := valF_lt hf hf0 (ds.drop (zerosN ds)) (fun d h => hd d (List.mem_of_mem_drop h))
  have h2 := ha.short hb h1
  have h3 := zerosN_le ds
  rw [List.length_drop] at h2
  rw [List.length_append, List.length_replicate, List.length_reverse]
  omega
theorem RebOf.unique {b f : Nat} {ds x y : List UInt8} (hx : RebOf b f ds x) (hy : RebOf b f ds y) : x = y := by
  obtain ⟨a, ha, rfl⟩ := hx
  obtain ⟨c, hc, rfl⟩ := hy
  rw [ha.unique hc]

set_option maxRecDepth 100000 in
set_option maxHeartbeats 800000 in
theorem base58_any (B : Nat) (x : Value) (ds : List UInt8) (w : World) (hx : Byt w B x ds) (hB : B ≤ w.heap.size) (hl : ds.length ≤ 6000) :
    Calls Tryd.prog 21 #[x] w fun e w' => ∃ out, e = .returned (.string ⟨(letters b58D out).toArray⟩) ∧ RebOf 58 256 ds out ∧ Below w.heap.size w w' := by
  have hd : ∀ d ∈ ds, d.toNat < 256 := fun d _ => d.toNat_lt
  have C := reb_any B x ds 256 58 w hx hB (by omega) (by omega) (by omega) (by omega) (by omega) hd
  obtain ⟨A, c, hxf⟩ := hx.form
  subst hxf
  have HC := Lib.hid C
  have HD := Lib.hid hd
  clear C hd
  go_enter Tryd.func21, Tryd.ntmps21
  go_wp2_with fail
  refine HC.out.mono ?_
  rintro e w1 ⟨v, out, rfl, hreb, hown, hb1⟩
  have hol := reb_length hreb (by omega) (by omega) (by omega) HD.out
  have hsp := spell_any _ v out b58D w1 hown.byt (Nat.le_refl _) (by omega) (fun p hp => reb_small hreb (by omega) (by omega) p hp)
  have HS := Lib.hid hsp
  have HR := Lib.hid hreb
  obtain ⟨A1, c1, rfl⟩ := hown.form
  clear hsp hreb hown hol
  go_wp2_with fail
  refine HS.out.mono ?_
  rintro e w2 ⟨rfl, hb2⟩
  go_wp2
  go_ret
  exact ⟨out, rfl, HR.out, hb1.trans (hb2.mono hb1.size)⟩

theorem asc_one : AscOf 58 1 [1] := ⟨1, by decide, by decide, fun j hj => by
  have : j = 0 := by omega
  subst this; decide⟩
theorem reb_001 {out : List UInt8} (h : RebOf 58 256 [0, 0, 1] out) : out = [0, 0, 1] := by
  refine h.unique ⟨[1], ?_, by decide⟩
  exact asc_one

theorem bytes_two {s : ByteArray} {l : List UInt8} (h : s.data.toList = l) : s = ⟨l.toArray⟩ := Go.WideShapes.bytes_inj (by rw [h])

set_option maxRecDepth 100000 in
set_option maxHeartbeats 1600000 in
theorem awake_any (w : World) (hc : CodeIs w) :
    Calls Tryd.prog 5 #[] w fun e w' => e = .returned (.bool true) ∧ Below w.heap.size w w' := by
  have K := checksum_any ⟨#[114, 97, 119, 40, 100, 101, 97, 100, 98, 101, 101, 102, 41]⟩ w (by decide) hc
  have k1 : ∀ c ∈ ([114, 97, 119, 40, 100, 101, 97, 100, 98, 101, 101, 102, 41] : List UInt8), 0 ≤ posB inB c := by decide +kernel
  have k2 : sumLetters (chkN (natsOf (placesB inB [114, 97, 119, 40, 100, 101, 97, 100, 98, 101, 101, 102, 41]))) = [56, 57, 102, 56, 115, 112, 120, 109] := by decide +kernel
  have h1 : nibsOf [10] = [0, 10] := by decide
  have h2 : letters hexD [0, 10] = [48, 97] := by decide
  have HK := Lib.hid K
  have HK1 := Lib.hid k1
  have HK2 := Lib.hid k2
  have H12 := Lib.hid (And.intro h1 h2)
  clear K k1 k2 h1 h2
  go_enter Tryd.func5, Tryd.ntmps5
  go_wp2_with fail
  refine HK.out.mono ?_
  rintro e w1 ⟨hb1, ⟨_, rfl⟩ | ⟨⟨c, hcm, hneg⟩, _⟩⟩
  · have e2 : sumLetters (chkN (natsOf (placesB inB (ByteArray.data ⟨#[114, 97, 119, 40, 100, 101, 97, 100, 98, 101, 101, 102, 41]⟩).toList))) = [56, 57, 102, 56, 115, 112, 120, 109] := HK2.out
    rw [e2]
    have hm1 : Byt (w1.alloc (.cells #[.int .u8 0, .int .u8 0, .int .u8 1] 5)) (w1.heap.size + 1) (.slice (some ⟨w1.heap.size, 0, none⟩) 3 3) [0, 0, 1] :=
      Byt.made w1 _ [_, _, _] [0, 0, 1] rfl (by unfold maxLen; simp)
    have C58 := base58_any _ _ _ _ hm1 (by simp) (by simp)
    have HC58 := Lib.hid C58
    clear e2 hm1 C58
    go_wp2_with fail
    refine HC58.out.mono ?_
    rintro e w2 ⟨out, rfl, hreb, hb2⟩
    have ho := reb_001 hreb
    subst ho
    have el : letters b58D [0, 0, 1] = [49, 49, 50] := by decide
    rw [el]
    have hm2 : Byt (w2.alloc (.cells #[.int .u8 10] 5)) (w2.heap.size + 1) (.slice (some ⟨w2.heap.size, 0, none⟩) 1 1) [10] :=
      Byt.made w2 _ [_] [10] rfl (by unfold maxLen; simp)
    have CH := hexp_any _ _ _ _ hm2 (by simp) (by simp)
    have HCH := Lib.hid CH
    clear hreb el hm2 CH
    go_wp2_with fail
    refine HCH.out.mono ?_
    rintro e w3 ⟨rfl, hb3⟩
    have e3 : (letters ⟨#[48, 49, 50, 51, 52, 53, 54, 55, 56, 57, 97, 98, 99, 100, 101, 102, 65, 66, 67, 68, 69, 70]⟩ (nibsOf [10])) = [48, 97] := by rw [H12.out.1]; exact H12.out.2
    rw [e3]
    clear e3
    go_wp2
    go_ret
    exact ⟨rfl, (hb1.trans (((((Below.refl _ w1).alloc (Nat.le_refl _) _)).trans (hb2.mono (by simp))).mono hb1.size)).trans ((((Below.refl _ w2).alloc (Nat.le_refl _) _).trans (hb3.mono (by simp))).mono (by have := hb1.size; have h5 := hb2.size; simp at h5; omega))⟩
  · have := HK1.out c hcm
    omega
end Go.Proofs.YtgiljhdjknglpaaDoor

/-
  The law on values of some bits as values of others. Conditions: the listed table holds what its text lays.
-/
namespace Go.Proofs.YtgiljhdjknglpaaDoor
open Go.RowKit

set_option maxRecDepth 100000 in
set_option maxHeartbeats 1600000 in
theorem refReg_any (B : Nat) (x : Value) (ds : List UInt8) (f t : Int) (pad : Bool) (w : World) (hx : Byt w B x ds) (hB : B ≤ w.heap.size) (hl : ds.length ≤ 20000) :
    Calls Tryd.prog 28 #[x, .int .i64 f, .int .i64 t, .bool pad] w (RegPost w (regS f t pad ds)) := by
  by_cases hok : 1 ≤ f ∧ f ≤ 8 ∧ 1 ≤ t ∧ t ≤ 8
  · obtain ⟨a, rfl⟩ : ∃ a : Nat, f = a := ⟨f.toNat, by omega⟩
    obtain ⟨b, rfl⟩ : ∃ b : Nat, t = b := ⟨t.toNat, by omega⟩
    exact refReg_good B x ds a b pad w hx hB hl (by omega) (by omega) (by omega) (by omega)
  · have hr := regS_out (f := f) (t := t) (ds := ds) (by omega) pad
    rw [hr]
    obtain ⟨A, c, hxf⟩ := hx.form
    subst hxf
    clear hr hx
    by_cases h1 : f < 1
    · have d1 : decide (f < 1) = true := decide_eq_true h1
      go_enter Tryd.func28, Tryd.ntmps28
      go_wp2
      go_ret2
      exact ⟨_, rfl, OwnB.nil _ _, Below.refl _ _⟩
    · have d1 : decide (f < 1) = false := decide_eq_false h1
      by_cases h2 : 8 < f
      · have d2 : decide (8 < f) = true := decide_eq_true h2
        go_enter Tryd.func28, Tryd.ntmps28
        go_wp2
        go_ret2
        exact ⟨_, rfl, OwnB.nil _ _, Below.refl _ _⟩
      · have d2 : decide (8 < f) = false := decide_eq_false h2
        by_cases h3 : t < 1
        · have d3 : decide (t < 1) = true := decide_eq_true h3
          go_enter Tryd.func28, Tryd.ntmps28
          go_wp2
          go_ret2
          exact ⟨_, rfl, OwnB.nil _ _, Below.refl _ _⟩
        · have d3 : decide (t < 1) = false := decide_eq_false h3
          have d4 : decide (8 < t) = true := decide_eq_true (by omega)
          go_enter Tryd.func28, Tryd.ntmps28
          go_wp2
          go_ret2
          exact ⟨_, rfl, OwnB.nil _ _, Below.refl _ _⟩

theorem regS_code {f t : Int} {pad : Bool} {ds : List UInt8} (h : (regS f t pad ds).1 = 0) : 1 ≤ f ∧ f ≤ 8 ∧ 1 ≤ t ∧ t ≤ 8 ∧ ∀ d ∈ ds, d.toNat < 2 ^ f.toNat := by
  unfold regS at h
  split at h
  · cases h
  · next h1 =>
    split at h
    · cases h
    · next h2 =>
      refine ⟨by omega, by omega, by omega, by omega, fun d hd => ?_⟩
      rcases Nat.lt_or_ge d.toNat (2 ^ f.toNat) with h | h
      · exact h
      · exact absurd ⟨d, hd, h⟩ h2
theorem regS_back {f t : Int} {ds : List UInt8} (h : (regS f t true ds).1 = 0) (htf : t ≤ f) : regS t f false (regS f t true ds).2 = (0, ds) := by
  obtain ⟨h1, h2, h3, h4, h5⟩ := regS_code h
  obtain ⟨a, rfl⟩ : ∃ a : Nat, f = a := ⟨f.toNat, by omega⟩
  obtain ⟨b, rfl⟩ : ∃ b : Nat, t = b := ⟨t.toNat, by omega⟩
  exact reg_back (by omega) (by omega) (by omega) (by omega) (by omega) h5
theorem regS_length {f t : Int} {pad : Bool} {ds : List UInt8} (hl : ds.length ≤ 200) : (regS f t pad ds).2.length ≤ 2000 := by
  unfold regS
  split
  · simp
  · split
    · simp
    · have h1 : (bitsAll f.toNat ds).length ≤ 200 * 8 := by rw [bitsAll_length]; exact Nat.mul_le_mul hl (by omega)
      have h2 : (bitsAll f.toNat ds).length / t.toNat ≤ (bitsAll f.toNat ds).length := Nat.div_le_self _ _
      simp only
      split
      · split
        · simp only [List.length_append, outsN_length, List.length_cons, List.length_nil]; omega
        · simp only [outsN_length]; omega
      · split
        · simp
        · simp only [outsN_length]; omega

theorem drew_byt {w : World} {B k : Nat} {v : Value} {xs : List UInt8} (h : Byt w B v xs) : Byt (w.drewN k) B v xs := h.keep (fun _ _ _ => rfl)

end Go.Proofs.YtgiljhdjknglpaaDoor

/-
  text.isProgram, text.Segwit, text.FromSegwit. Conditions: the listed table holds what its text lays; sizes within the reach.
-/
namespace Go.Proofs.YtgiljhdjknglpaaDoor
open Go.RowKit

theorem fits_zero (n : Nat) : fitsB 0 n = ((n : Int) == 20 || (n : Int) == 32) := by
  unfold fitsB
  rw [if_pos rfl]
  have e1 : ((n : Int) == 20) = (n == 20) := by rw [Bool.eq_iff_iff, beq_iff_eq, beq_iff_eq]; omega
  have e2 : ((n : Int) == 32) = (n == 32) := by rw [Bool.eq_iff_iff, beq_iff_eq, beq_iff_eq]; omega
  rw [e1, e2]
theorem fits_more {v : Int} (hv : v ≠ 0) (n : Nat) : fitsB v n = (decide (2 ≤ (n : Int)) && decide ((n : Int) ≤ 40)) := by
  unfold fitsB
  rw [if_neg hv]
  have e1 : decide (2 ≤ (n : Int)) = decide (2 ≤ n) := decide_eq_decide.2 (by omega)
  have e2 : decide ((n : Int) ≤ 40) = decide (n ≤ 40) := decide_eq_decide.2 (by omega)
  rw [e1, e2]

set_option maxRecDepth 100000 in
set_option maxHeartbeats 800000 in
theorem isprog_any (v : Int) (n : Nat) (w : World) : Calls Tryd.prog 27 #[.int .i64 v, .int .i64 n] w fun e w' => e = .returned (.bool (fitsB v n)) ∧ w = w' := by
  obtain ⟨r, hr⟩ : ∃ r, r = fitsB v n := ⟨_, rfl⟩
  rw [← hr]
  by_cases hv : v = 0
  · subst hv
    rw [fits_zero] at hr
    obtain ⟨p, hp⟩ : ∃ p, ((n : Int) == 20) = p := ⟨_, rfl⟩
    obtain ⟨q, hq⟩ : ∃ q, ((n : Int) == 32) = q := ⟨_, rfl⟩
    rw [hp, hq] at hr
    subst hr
    cases p <;> cases q
    all_goals go_enter Tryd.func27, Tryd.ntmps27
    all_goals go_wp2
    all_goals go_ret
    all_goals exact ⟨rfl, rfl⟩
  · rw [fits_more hv] at hr
    have hv2 : (v == 0) = false := by simpa using hv
    obtain ⟨p, hp⟩ : ∃ p, decide (2 ≤ (n : Int)) = p := ⟨_, rfl⟩
    obtain ⟨q, hq⟩ : ∃ q, decide ((n : Int) ≤ 40) = q := ⟨_, rfl⟩
    rw [hp, hq] at hr
    subst hr
    clear hv
    cases p <;> cases q
    all_goals go_enter Tryd.func27, Tryd.ntmps27
    all_goals go_wp2
    all_goals go_ret
    all_goals exact ⟨rfl, rfl⟩

theorem segS_arg {h p : List UInt8} {ver : Int} (hv : ver < 0 ∨ 16 < ver) : segS h ver p = (1, []) := by unfold segS; rw [if_pos hv]
theorem segS_size {h p : List UInt8} {ver : Int} (hv : ¬ (ver < 0 ∨ 16 < ver)) (hf : fitsB ver p.length = false) : segS h ver p = (2, []) := by unfold segS; rw [if_neg hv, if_pos hf]
theorem segS_go {h p : List UInt8} {ver : Int} (hv : ¬ (ver < 0 ∨ 16 < ver)) (hf : fitsB ver p.length = true) : segS h ver p = bechS h (b8 ver :: (regS 8 5 true p).2) (decide (0 < ver)) := by unfold segS; rw [if_neg hv, if_neg (by rw [hf]; simp)]

set_option maxRecDepth 100000 in
set_option maxHeartbeats 6400000 in
theorem segwit_any (B : Nat) (s : ByteArray) (ver : Int) (x : Value) (p : List UInt8) (w : World) (hbe : BechIs w) (hx : Byt w B x p) (hB : B ≤ w.heap.size) (hs : s.size ≤ 140737488355328) (hl : p.length ≤ 2000) :
    Calls Tryd.prog 11 #[.string s, .int .i64 ver, x] w fun e w' => e = .returned (.tuple #[.string ⟨(segS s.data.toList ver p).2.toArray⟩, .int .i64 (segS s.data.toList ver p).1]) ∧ Below w.heap.size w w' := by
  obtain ⟨h, hh⟩ : ∃ h, h = s.data.toList := ⟨_, rfl⟩
  obtain ⟨r, hr⟩ : ∃ r, r = segS h ver p := ⟨_, rfl⟩
  rw [← hh, ← hr]
  have HH := Lib.hid hh
  have HX := Lib.hid hx
  have HBE := Lib.hid hbe
  obtain ⟨A, cx, hxf⟩ := hx.form
  subst hxf
  clear hx hbe hh
  by_cases h0 : ver < 0
  · rw [segS_arg (.inl h0)] at hr
    subst hr
    have d0 : decide (ver < 0) = true := decide_eq_true h0
    clear h0
    go_enter Tryd.func11, Tryd.ntmps11
    go_wp2_with fail
    go_ret2
    exact ⟨rfl, Below.refl _ _⟩
  · have d0 : decide (ver < 0) = false := decide_eq_false h0
    by_cases h1 : 16 < ver
    · rw [segS_arg (.inr h1)] at hr
      subst hr
      have d1 : decide (16 < ver) = true := decide_eq_true h1
      clear h0 h1
      go_enter Tryd.func11, Tryd.ntmps11
      go_wp2_with fail
      go_ret2
      exact ⟨rfl, Below.refl _ _⟩
    · have d1 : decide (16 < ver) = false := decide_eq_false h1
      have P := isprog_any ver p.length
      cases hf : fitsB ver p.length with
      | false =>
        rw [segS_size (by omega) hf] at hr
        subst hr
        rw [hf] at P
        have HP := Lib.hid P
        clear h0 h1 hf P
        go_enter Tryd.func11, Tryd.ntmps11
        go_wp2_with fail
        refine (HP.out _).mono ?_
        rintro e w1 ⟨rfl, rfl⟩
        go_wp2_with fail
        go_ret2
        exact ⟨rfl, Below.refl _ _⟩
      | true =>
        rw [segS_go (by omega) hf] at hr
        rw [hf] at P
        have hp40 := fitsB_le hf
        have HP := Lib.hid P
        have HR := Lib.hid hr
        have REG := Lib.hid (regroup_any B _ p 8 5 true w HX.out hB (by omega))
        have hrl := reg85_len p
        have hr0 := reg85 p
        obtain ⟨G, hG⟩ : ∃ G, G = regS 8 5 true p := ⟨_, rfl⟩
        rw [← hG] at REG hrl hr0 HR
        have HG0 := Lib.hid hr0
        have HRL := Lib.hid hrl
        have hw : IntKind.u8.wrap ver = ver := by rw [IntKind.wrap_u8]; omega
        have hpos : 0 ≤ ver := by omega
        have h16 : ver ≤ 16 := by omega
        clear h0 h1 hf P hr hrl hr0 hG
        go_enter Tryd.func11, Tryd.ntmps11
        go_wp2_with fail
        refine (HP.out _).mono ?_
        rintro e w1 ⟨rfl, rfl⟩
        go_wp2_with fail
        refine REG.out.mono ?_
        rintro e w2 ⟨v, rfl, hown, hb2⟩
        rw [HG0.out]
        have hby := Byt.of_own hown
        obtain ⟨A2, c2, rfl⟩ := hown.form
        have HB2 := Lib.hid hb2
        have hm1 : Byt (w2.alloc (.cells #[.int .u8 ver] 5)) (w2.heap.size + 1) (.slice (some ⟨w2.heap.size, 0, none⟩) 1 1) [b8 ver] :=
          Byt.made w2 _ [_] [b8 ver] (by rw [List.map_cons, List.map_nil, bv_b8_of hpos (by omega)]) (by unfold maxLen; simp)
        have hsz2 : (w2.alloc (.cells #[.int .u8 ver] 5)).heap.size = w2.heap.size + 1 := by simp
        have hbag := BagR.made (w2.alloc (.cells #[.int .u8 ver] 5)) 23 [.slice (some ⟨w2.heap.size, 0, none⟩) 1 1, .slice A2 G.2.length c2] [(.slice (some ⟨w2.heap.size, 0, none⟩) 1 1, [b8 ver]), (.slice A2 G.2.length c2, G.2)] rfl (by unfold maxLen; simp) (by
          intro q hq
          simp only [List.mem_cons, List.not_mem_nil, or_false] at hq
          rcases hq with rfl | rfl
          · rw [hsz2]; exact hm1
          · exact (byt_later hby _).more (by rw [hsz2]; omega))
        have hj : joined [((.slice (some ⟨w2.heap.size, 0, none⟩) 1 1 : Value), [b8 ver]), (.slice A2 G.2.length c2, G.2)] = b8 ver :: G.2 := by unfold joined; simp
        rw [hsz2] at hbag
        have C2 := concat_any (w2.heap.size + 1 + 1) _ _ ((w2.alloc (.cells #[.int .u8 ver] 5)).alloc (.cells #[.slice (some ⟨w2.heap.size, 0, none⟩) 1 1, .slice A2 G.2.length c2] 23)) hbag (by simp) (by rw [← joined_length, hj, List.length_cons, HRL.out]; omega)
        rw [hj] at C2
        have HC2 := Lib.hid C2
        have HB3 : Hid (Below w.heap.size w ((w2.alloc (.cells #[.int .u8 ver] 5)).alloc (.cells #[.slice (some ⟨w2.heap.size, 0, none⟩) 1 1, .slice A2 G.2.length c2] 23))) := Lib.hid ((hb2.alloc hb2.size _).alloc (by have := hb2.size; simp; omega) _)
        clear hm1 hsz2 hbag hj C2 hby hown hb2 REG
        go_wp2_with fail
        refine HC2.out.mono ?_
        intro e w3 hfr
        obtain ⟨v3, rfl, hown3, hb3⟩ := fresh_v hfr
        have HB4 := Lib.hid (HB3.out.trans (hb3.mono HB3.out.size))
        have P4 := bech32_any w3.heap.size s v3 (b8 ver :: G.2) (decide (0 < ver)) w3 (HBE.out.below HB4.out HBE.out.1) (Byt.of_own hown3) (Nat.le_refl _) hs (by rw [List.length_cons, HRL.out]; omega)
        rw [← HH.out, ← HR.out] at P4
        obtain ⟨dv, hdv⟩ : ∃ dv, decide (0 < ver) = dv := ⟨_, rfl⟩
        rw [hdv] at P4
        have HP4 := Lib.hid P4
        obtain ⟨A3, c3, rfl⟩ := hown3.form
        clear hfr hown3 hb3 P4
        go_wp2_with fail
        refine HP4.out.mono ?_
        rintro e w4 ⟨rfl, hb4⟩
        have HB5 := Lib.hid (HB4.out.trans (hb4.mono HB4.out.size))
        clear hb4
        go_wp2_with fail
        go_ret2
        exact ⟨rfl, HB5.out⟩
end Go.Proofs.YtgiljhdjknglpaaDoor
