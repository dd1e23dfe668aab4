/-
  text.Base58; and the fixed fact of the laws on texts comes out true. Conditions: the listed table holds what its text lays; sizes within the reach.
-/
import Derived.Test.YtpaafkhlelljcaaDoorReb
import Derived.Test.YtpaafkhlelljcaaDoorChk2
import Derived.Test.YtpaafkhlelljcaaDoorFromHex2
namespace Go.Proofs.YtpaafkhlelljcaaDoor
open Go.RowKit

def b58D : ByteArray := ⟨#[49, 50, 51, 52, 53, 54, 55, 56, 57, 65, 66, 67, 68, 69, 70, 71, 72, 74, 75, 76, 77, 78, 80, 81, 82, 83, 84, 85, 86, 87, 88, 89, 90, 97, 98, 99, 100, 101, 102, 103, 104, 105, 106, 107, 109, 110, 111, 112, 113, 114, 115, 116, 117, 118, 119, 120, 121, 122]⟩
theorem reb_small {b f : Nat} {ds out : List UInt8} (h : RebOf b f ds out) (h0 : 0 < b) (h1 : b ≤ 256) : ∀ d ∈ out, d.toNat < b := by
  obtain ⟨asc, ⟨k, rfl, _, _⟩, rfl⟩ := h
  intro d hd
  rcases List.mem_append.1 hd with h | h
  · rw [List.eq_of_mem_replicate h]
    exact h0
  · rw [List.mem_reverse] at h
    unfold digitsL at h
    obtain ⟨j, _, rfl⟩ := List.mem_map.1 h
    rw [digN_nat h0 h1]
    exact Nat.mod_lt _ h0
theorem reb_length {b f : Nat} {ds out : List UInt8} (h : RebOf b f ds out) (hb : 2 ≤ b) (hf : f ≤ 256) (hf0 : 0 < f) (hd : ∀ d ∈ ds, d.toNat < f) : out.length ≤ 9 * ds.length := by
  obtain ⟨asc, ha, rfl⟩ := h
  have h1 := valF_lt hf hf0 (ds.drop (zerosN ds)) (fun d h => hd d (List.mem_of_mem_drop h))
  have h2 := ha.short hb h1
  have h3 := zerosN_le ds
  rw [List.length_drop] at h2
  rw [List.length_append, List.length_replicate, List.length_reverse]
  omega
theorem RebOf.unique {b f : Nat} {ds x y : List UInt8} (hx : RebOf b f ds x) (hy : RebOf b f ds y) : x = y := by
  obtain ⟨a, ha, rfl⟩ := hx
  obtain ⟨c, hc, rfl⟩ := hy
  rw [ha.unique hc]

set_option maxRecDepth 100000 in
set_option maxHeartbeats 800000 in
theorem base58_any (B : Nat) (x : Value) (ds : List UInt8) (w : World) (hx : Byt w B x ds) (hB : B ≤ w.heap.size) (hl : ds.length ≤ 6000) :
    Calls Tryd.prog 29 #[x] w fun e w' => ∃ out, e = .returned (.string ⟨(letters b58D out).toArray⟩) ∧ RebOf 58 256 ds out ∧ Below w.heap.size w w' := by
  have hd : ∀ d ∈ ds, d.toNat < 256 := fun d _ => d.toNat_lt
  have C := reb_any B x ds 256 58 w hx hB (by omega) (by omega) (by omega) (by omega) (by omega) hd
  obtain ⟨A, c, hxf⟩ := hx.form
  subst hxf
  have HC := Lib.hid C
  have HD := Lib.hid hd
  clear C hd
  go_enter Tryd.func29, Tryd.ntmps29
  go_wp2_with fail
  refine HC.out.mono ?_
  rintro e w1 ⟨v, out, rfl, hreb, hown, hb1⟩
  have hol := reb_length hreb (by omega) (by omega) (by omega) HD.out
  have hsp := spell_any _ v out b58D w1 hown.byt (Nat.le_refl _) (by omega) (fun p hp => reb_small hreb (by omega) (by omega) p hp)
  have HS := Lib.hid hsp
  have HR := Lib.hid hreb
  obtain ⟨A1, c1, rfl⟩ := hown.form
  clear hsp hreb hown hol
  go_wp2_with fail
  refine HS.out.mono ?_
  rintro e w2 ⟨rfl, hb2⟩
  go_wp2
  go_ret
  exact ⟨out, rfl, HR.out, hb1.trans (hb2.mono hb1.size)⟩

theorem asc_one : AscOf 58 1 [1] := ⟨1, by decide, by decide, fun j hj => by
  have : j = 0 := by omega
  subst this; decide⟩
theorem reb_001 {out : List UInt8} (h : RebOf 58 256 [0, 0, 1] out) : out = [0, 0, 1] := by
  refine h.unique ⟨[1], ?_, by decide⟩
  exact asc_one

theorem bytes_two {s : ByteArray} {l : List UInt8} (h : s.data.toList = l) : s = ⟨l.toArray⟩ := Go.WideShapes.bytes_inj (by rw [h])

set_option maxRecDepth 100000 in
set_option maxHeartbeats 1600000 in
theorem awake_any (w : World) (hc : CodeIs w) :
    Calls Tryd.prog 8 #[] w fun e w' => e = .returned (.bool true) ∧ Below w.heap.size w w' := by
  have K := checksum_any ⟨#[114, 97, 119, 40, 100, 101, 97, 100, 98, 101, 101, 102, 41]⟩ w (by decide) hc
  have k1 : ∀ c ∈ ([114, 97, 119, 40, 100, 101, 97, 100, 98, 101, 101, 102, 41] : List UInt8), 0 ≤ posB inB c := by decide +kernel
  have k2 : sumLetters (chkN (natsOf (placesB inB [114, 97, 119, 40, 100, 101, 97, 100, 98, 101, 101, 102, 41]))) = [56, 57, 102, 56, 115, 112, 120, 109] := by decide +kernel
  have h1 : nibsOf [10] = [0, 10] := by decide
  have h2 : letters hexD [0, 10] = [48, 97] := by decide
  have HK := Lib.hid K
  have HK1 := Lib.hid k1
  have HK2 := Lib.hid k2
  have H12 := Lib.hid (And.intro h1 h2)
  clear K k1 k2 h1 h2
  go_enter Tryd.func8, Tryd.ntmps8
  go_wp2_with fail
  refine HK.out.mono ?_
  rintro e w1 ⟨hb1, ⟨_, rfl⟩ | ⟨⟨c, hcm, hneg⟩, _⟩⟩
  · have e2 : sumLetters (chkN (natsOf (placesB inB (ByteArray.data ⟨#[114, 97, 119, 40, 100, 101, 97, 100, 98, 101, 101, 102, 41]⟩).toList))) = [56, 57, 102, 56, 115, 112, 120, 109] := HK2.out
    rw [e2]
    have hm1 : Byt (w1.alloc (.cells #[.int .u8 0, .int .u8 0, .int .u8 1] 5)) (w1.heap.size + 1) (.slice (some ⟨w1.heap.size, 0, none⟩) 3 3) [0, 0, 1] :=
      Byt.made w1 _ [_, _, _] [0, 0, 1] rfl (by unfold maxLen; simp)
    have C58 := base58_any _ _ _ _ hm1 (by simp) (by simp)
    have HC58 := Lib.hid C58
    clear e2 hm1 C58
    go_wp2_with fail
    refine HC58.out.mono ?_
    rintro e w2 ⟨out, rfl, hreb, hb2⟩
    have ho := reb_001 hreb
    subst ho
    have el : letters b58D [0, 0, 1] = [49, 49, 50] := by decide
    rw [el]
    have hm2 : Byt (w2.alloc (.cells #[.int .u8 10] 5)) (w2.heap.size + 1) (.slice (some ⟨w2.heap.size, 0, none⟩) 1 1) [10] :=
      Byt.made w2 _ [_] [10] rfl (by unfold maxLen; simp)
    have CH := hexp_any _ _ _ _ hm2 (by simp) (by simp)
    have HCH := Lib.hid CH
    clear hreb el hm2 CH
    go_wp2_with fail
    refine HCH.out.mono ?_
    rintro e w3 ⟨rfl, hb3⟩
    have e3 : (letters ⟨#[48, 49, 50, 51, 52, 53, 54, 55, 56, 57, 97, 98, 99, 100, 101, 102, 65, 66, 67, 68, 69, 70]⟩ (nibsOf [10])) = [48, 97] := by rw [H12.out.1]; exact H12.out.2
    rw [e3]
    clear e3
    go_wp2
    go_ret
    exact ⟨rfl, (hb1.trans (((((Below.refl _ w1).alloc (Nat.le_refl _) _)).trans (hb2.mono (by simp))).mono hb1.size)).trans ((((Below.refl _ w2).alloc (Nat.le_refl _) _).trans (hb3.mono (by simp))).mono (by have := hb1.size; have h5 := hb2.size; simp at h5; omega))⟩
  · have := HK1.out c hcm
    omega
end Go.Proofs.YtpaafkhlelljcaaDoor
