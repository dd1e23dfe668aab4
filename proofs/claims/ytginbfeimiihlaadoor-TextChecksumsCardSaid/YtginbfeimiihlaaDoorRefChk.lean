/-
  The reference's Checksum. Conditions: sizes within the reach.
-/
import Derived.Test.YtginbfeimiihlaaDoorTurn
import Derived.Test.YtginbfeimiihlaaDoorChk2
namespace Go.Proofs.YtginbfeimiihlaaDoor
open Go.RowKit

/-- What the reference's Checksum answers. -/
def RefChkPost (w : World) (cs : List UInt8) (e : Ending) (w' : World) : Prop :=
  Below w.heap.size w w' ∧ ((∀ c ∈ cs, 0 ≤ posB inB c) ∧ e = .returned (.tuple #[.string ⟨(sumLetters (chkN (natsOf (placesB inB cs)))).toArray⟩, .bool true]) ∨ (∃ c ∈ cs, posB inB c < 0) ∧ e = .returned (.tuple #[.string ⟨#[]⟩, .bool false]))

def turnK (c : Nat) : Nat → Nat
  | 0 => c
  | k + 1 => turnN (turnK c k) 0
theorem turnK_lt (c : Nat) (hc : c < 1099511627776) : ∀ k, turnK c k < 1099511627776
  | 0 => hc
  | k + 1 => turnN_lt _ _ (by omega)
theorem turnK_eight (c : Nat) : turnK c 8 = eight c := rfl

/-- The first letters of a sum, the i-th stands for the bits from 5 * (7 - i) on. -/
def someLetters (c n : Nat) : List UInt8 := (List.range n).map fun i => l32.data.toList.getD (c / 2 ^ (5 * (7 - i)) % 32) 0
theorem someLetters_all (c : Nat) : someLetters c 8 = sumLetters c := by
  unfold someLetters sumLetters eightOf
  rw [List.map_map]
  rfl
theorem someLetters_succ (c n : Nat) : someLetters c (n + 1) = someLetters c n ++ [l32.data.toList.getD (c / 2 ^ (5 * (7 - n)) % 32) 0] := by
  unfold someLetters
  rw [List.range_succ, List.map_append]
  rfl
theorem l32_at {v : Nat} (h : v < 32) : l32.data.toList.getD v 0 = l32[v]'(by show v < l32.size; exact h) := by
  have h2 := Lib.data_getElem? l32 v h
  rw [List.getD_eq_getElem?_getD, h2]
  rfl
theorem posB_range (al : ByteArray) (c : UInt8) : -1 ≤ posB al c ∧ posB al c < al.size := by
  have hge := Lib.indexByte_ge al.data.toList c
  have e : posB al c = Lib.indexByte al.data.toList c := rfl
  refine ⟨by omega, ?_⟩
  by_cases h : posB al c < 0
  · have : 0 ≤ al.size := Nat.zero_le _
    omega
  · obtain ⟨o, ho⟩ : ∃ o : Nat, posB al c = o := ⟨(posB al c).toNat, by omega⟩
    have := (List.getElem?_eq_some_iff.1 (Lib.indexByte_some (l := al.data.toList) (by exact ho)).1).1
    have h2 : al.data.toList.length = al.size := rfl
    omega
theorem natsOf_at {al : ByteArray} {cs : List UInt8} {i : Nat} {c : UInt8} (h : cs[i]? = some c) (h0 : 0 ≤ posB al c) (hs : al.size ≤ 255) : (natsOf (placesB al cs))[i]? = some (posB al c).toNat := by
  unfold natsOf placesB
  rw [List.map_map, List.getElem?_map, h]
  have h1 := posB_range al c
  have h2 := b8_toNat (posB al c)
  show some (b8 (posB al c)).toNat = _
  congr 1
  omega
theorem chkAll_at {ps : List Nat} {i p : Nat} (h : ps[i]? = some p) : chkAll (ps.take (i + 1)) = chk1 (chkAll (ps.take i)) p := by
  unfold chkAll
  rw [List.take_add_one, h, List.foldl_append]
  rfl

/-- A byte that has just been laid, as a text. -/
theorem one_str8 (W : World) (q : UInt8) :
    (convert 22 9 (.slice (some ⟨W.heap.size, 0, none⟩) 1 1)).run Tryd.prog (W.alloc (.cells #[.int .u8 (q.toNat : Int)] 5)) = .ok (.string ⟨#[q]⟩) (W.alloc (.cells #[.int .u8 (q.toNat : Int)] 5)) :=
  run_string_of (P := Tryd.prog) _ 22 9 5 Tryd.underlying22 Tryd.underlying5 Tryd.underlying9 _ _ _ (Byt.made W 5 _ [q] rfl (by unfold maxLen; simp))
theorem str_join {l : List UInt8} {c : UInt8} : (⟨l.toArray⟩ : ByteArray) ++ ⟨#[c]⟩ = ⟨(l ++ [c]).toArray⟩ := by
  apply Go.WideShapes.bytes_inj
  simp

set_option maxRecDepth 100000 in
set_option maxHeartbeats 3200000 in
theorem refChk_any (s : ByteArray) (w : World) (hl : s.size ≤ 2000) :
    Calls Tryd.prog 18 #[.string s] w (RefChkPost w s.data.toList) := by
  obtain ⟨cs, hcs⟩ : ∃ cs, cs = s.data.toList := ⟨_, rfl⟩
  have hlen : cs.length = s.size := by rw [hcs]; rfl
  have hget : ∀ (m : Nat) (h : m < s.size), cs[m]? = some (s[m]'h) := fun m h => by rw [hcs]; exact Lib.data_getElem? s m h
  rw [← hcs]
  have HG := Lib.hid hget
  have HL := Lib.hid hlen
  clear hcs hget hlen
  go_enter Tryd.func18, Tryd.ntmps18
  go_wp2_with fail
  go_loopw [7, 4, 5, 6] (fun j cc gg kk wr => ∃ (i : Nat) (c g k : Nat), i ≤ s.size ∧ j = .int .i64 i ∧ cc = .int .u64 c ∧ gg = .int .i64 g ∧ kk = .int .i64 k ∧ Hid (chkAll ((natsOf (placesB inB cs)).take i) = ⟨c, g, k⟩) ∧ ChkOk ⟨c, g, k⟩ ∧ Hid (∀ c ∈ cs.take i, 0 ≤ posB inB c) ∧ Below w.heap.size w wr) (fun j _ _ _ _ => s.size - (intOf j).toNat)
  case atStart => exact ⟨0, 1, 0, 0, Nat.zero_le _, rfl, rfl, rfl, rfl, Lib.hid rfl, chkSt0_ok, Lib.hid (by simp), Below.refl _ _⟩
  case round =>
    obtain ⟨i, c, g, k, hi, rfl, rfl, rfl, rfl, hst, hok, hall, hbel⟩ := hrel
    have hcc := hok.c
    have hk3 := hok.k
    have hg8 := hok.g8
    simp only at hcc hk3 hg8
    by_cases hlt : i < s.size
    · obtain ⟨q, hq⟩ : ∃ q, q = s[i]'hlt := ⟨_, rfl⟩
      have hqi := HG.out i hlt
      rw [← hq] at hqi
      have P := fun W => place_any inB q W (by decide)
      have hpr := posB_range inB q
      have h95 : (inB.size : Int) = 95 := by decide
      rw [h95] at hpr
      obtain ⟨p, hp⟩ : ∃ p, p = posB inB q := ⟨_, rfl⟩
      rw [← hp] at P hpr
      have PP := Lib.hid P
      have HPE := Lib.hid hp
      have HQI := Lib.hid hqi
      clear P hp hqi h95
      by_cases hneg : p < 0
      · have hd : decide (p < 0) = true := decide_eq_true hneg
        have HBAD : Hid (∃ c ∈ cs, posB inB c < 0) := Lib.hid ⟨q, List.mem_of_getElem? HQI.out, by rw [← HPE.out]; exact hneg⟩
        go_wp2_with fail
        rw [← hq]
        refine (PP.out _).mono ?_
        rintro e w4 ⟨rfl, rfl⟩
        go_wp2
        go_ret2
        exact ⟨hbel, .inr ⟨HBAD.out, rfl⟩⟩
      · have hd : decide (p < 0) = false := decide_eq_false hneg
        obtain ⟨n, hn⟩ : ∃ n : Nat, p = n := ⟨p.toNat, by omega⟩
        have hnat := natsOf_at (al := inB) HQI.out (by rw [← HPE.out]; omega) (by decide)
        rw [← HPE.out, hn, Int.toNat_natCast] at hnat
        subst hn
        have hn96 : n < 96 := by omega
        have hnext := chkAll_at hnat
        rw [hst.out] at hnext
        have hok2 := chk1_ok hok hn96
        have C1 := fun W => turn_any c (n % 32) W hcc (by omega)
        have C2 := fun W => turn_any (turnN c (n % 32)) (3 * g + n / 32) W (turnN_lt _ _ (by omega)) (by omega)
        have e1 : ((n % 32 : Nat) : Int) = (n : Int) % 32 := by omega
        have e2 : ((3 * g + n / 32 : Nat) : Int) = 3 * (g : Int) + (n : Int) / 32 := by omega
        rw [e1] at C1
        rw [e2] at C2
        have HC1 := Lib.hid C1
        have HC2 := Lib.hid C2
        have HA : Hid (∀ c ∈ cs.take (i + 1), 0 ≤ posB inB c) := Lib.hid (fun c hc => by
          rw [List.take_add_one, HQI.out] at hc
          rcases List.mem_append.1 hc with h | h
          · exact hall.out c h
          · have : c = q := by simpa using h
            rw [this, ← HPE.out]; omega)
        clear C1 C2 hnat hst hok e1 e2 hall
        by_cases hk2 : k = 2
        · subst hk2
          rw [chk1_open] at hnext hok2
          have HN2 := Lib.hid hnext
          have HO := Lib.hid hok2
          clear hnext hok2
          go_wp2_with fail
          rw [← hq]
          refine (PP.out _).mono ?_
          rintro e w4 ⟨rfl, rfl⟩
          go_wp2_with fail
          refine (HC1.out _).mono ?_
          rintro e w5 ⟨rfl, hb5⟩
          go_wp2_with fail
          refine (HC2.out _).mono ?_
          rintro e w6 ⟨rfl, hb6⟩
          go_wp2
          refine ⟨⟨i + 1, _, _, _, by omega, by go_num, rfl, rfl, rfl, HN2, HO.out, HA, (hbel.trans (hb5.mono hbel.size)).trans (hb6.mono (Nat.le_trans hbel.size hb5.size))⟩, by simp [intOf]; omega⟩
        · rw [chk1_in _ _ _ (by omega)] at hnext hok2
          have HN2 := Lib.hid hnext
          have HO := Lib.hid hok2
          have hd2 : ((k : Int) + 1 == 3) = false := by simp; omega
          clear hnext hok2
          go_wp2_with fail
          rw [← hq]
          refine (PP.out _).mono ?_
          rintro e w4 ⟨rfl, rfl⟩
          go_wp2_with fail
          refine (HC1.out _).mono ?_
          rintro e w5 ⟨rfl, hb5⟩
          go_wp2
          refine ⟨⟨i + 1, _, _, _, by omega, by go_num, rfl, congrArg (Value.int .i64) (by omega), congrArg (Value.int .i64) (by omega), HN2, HO.out, HA, hbel.trans (hb5.mono hbel.size)⟩, by simp [intOf]; omega⟩
    · have hie : (natsOf (placesB inB cs)).take i = natsOf (placesB inB cs) := List.take_of_length_le (by have := HL.out; unfold natsOf; rw [List.length_map, placesB_length]; omega)
      have hia : cs.take i = cs := List.take_of_length_le (by have := HL.out; omega)
      rw [hie] at hst
      rw [hia] at hall
      have hend := chkEnd_lt hok
      obtain ⟨ce, hce⟩ : ∃ ce, ce = chkEnd ⟨c, g, k⟩ := ⟨_, rfl⟩
      rw [← hce] at hend
      have HCE := Lib.hid hce
      have HST := Lib.hid hst.out
      have HOK := Lib.hid hall.out
      have C1 := Lib.hid (fun W => turn_any c g W hcc (by omega))
      clear hce hst hok hie hia hall
      go_upto_if 41 with fail
      go_cut [4] (fun s4 wx => s4 = .int .u64 (ce : Int) ∧ Below w.heap.size w wx)
      case first =>
        by_cases hk0 : 0 < k
        · have hce : turnN c g = ce := by rw [HCE.out]; unfold chkEnd; rw [if_pos hk0]
          have HCE2 := Lib.hid hce
          clear hce
          go_wp2_with fail
          refine (C1.out _).mono ?_
          rintro e w2 ⟨rfl, hb2⟩
          go_wp2
          go_meet
          exact ⟨by rw [← HCE2.out], hbel.trans (hb2.mono hbel.size)⟩
        · have hce : c = ce := by rw [HCE.out]; unfold chkEnd; rw [if_neg hk0]
          have HCE2 := Lib.hid hce
          clear hce
          go_wp2
          go_meet
          exact ⟨by rw [← HCE2.out], hbel⟩
      case rest =>
        obtain ⟨rfl, hbw⟩ := hcut
        clear C1 hbel
        go_wp2_with fail
        go_loopw [9, 4] (fun j cc wr => ∃ k : Nat, k ≤ 8 ∧ j = .int .i64 k ∧ cc = .int .u64 ((turnK ce k : Nat) : Int) ∧ Below w.heap.size w wr) (fun j _ _ => 8 - (intOf j).toNat)
        case atStart => exact ⟨0, by omega, rfl, rfl, hbw⟩
        case round =>
          obtain ⟨k, hk, rfl, rfl, hbel⟩ := hrel
          by_cases h8 : k < 8
          · have T := Lib.hid (fun W => turn_any (turnK ce k) 0 W (turnK_lt ce hend k) (by omega))
            go_wp2_with fail
            refine (T.out _).mono ?_
            rintro e w2 ⟨rfl, hb2⟩
            go_wp2
            exact ⟨⟨k + 1, by omega, by go_num, rfl, hbel.trans (hb2.mono hbel.size)⟩, by simp [intOf]; omega⟩
          · obtain rfl : k = 8 := by omega
            have hx := bits_xor1 (eight ce) (eight_lt ce)
            have hlt8 := Nat.xor_lt_two_pow (n := 40) (eight_lt ce) (show 1 < 1099511627776 by decide)
            have hN : eight ce ^^^ 1 = chkN (natsOf (placesB inB cs)) := by unfold chkN; rw [HST.out, HCE.out]
            rw [hN] at hx hlt8
            rw [turnK_eight, show ((8 : Nat) : Int) = (8 : Int) from rfl]
            obtain ⟨z, hz0⟩ : ∃ z, z = chkN (natsOf (placesB inB cs)) := ⟨_, rfl⟩
            rw [← hz0] at hx hlt8
            have HZ0 := Lib.hid hz0
            clear hN hz0
            go_wp2_with fail
            clear hx
            go_loopw [11, 10] (fun j ss wr => ∃ n : Nat, n ≤ 8 ∧ j = .int .i64 (7 - (n : Int)) ∧ ss = .string ⟨(someLetters z n).toArray⟩ ∧ Below w.heap.size w wr) (fun j _ _ => (intOf j + 1).toNat)
            case atStart => exact ⟨0, by omega, rfl, rfl, hbel⟩
            case round =>
              obtain ⟨n, hn, rfl, rfl, hbel2⟩ := hrel
              by_cases h8 : n < 8
              · obtain ⟨v, hv⟩ : ∃ v, v = z / 2 ^ (5 * (7 - n)) % 32 := ⟨_, rfl⟩
                have hv32 : v < 32 := by rw [hv]; exact Nat.mod_lt _ (by omega)
                have hsn : someLetters z (n + 1) = someLetters z n ++ [l32[v]'(by show v < l32.size; exact hv32)] := by
                  rw [someLetters_succ, ← hv, l32_at hv32]
                have kc := fun W => one_str8 W ((⟨#[113, 112, 122, 114, 121, 57, 120, 56, 103, 102, 50, 116, 118, 100, 119, 48, 115, 51, 106, 110, 53, 52, 107, 104, 99, 101, 54, 109, 117, 97, 55, 108]⟩ : ByteArray)[v]'(by show v < 32; exact hv32))
                have hsl : (someLetters z n).length ≤ 8 := by unfold someLetters; rw [List.length_map, List.length_range]; omega
                obtain ⟨S, hS⟩ : ∃ S, S = someLetters z n := ⟨_, rfl⟩
                rw [← hS] at hsn hsl
                rw [← hS]
                have hss : (⟨S.toArray⟩ : ByteArray).size ≤ 8 := by show S.toArray.size ≤ 8; simpa using hsl
                have HSN := Lib.hid hsn
                have HV := Lib.hid hv
                clear hsn hv hS
                obtain rfl | rfl | rfl | rfl | rfl | rfl | rfl | rfl : n = 0 ∨ n = 1 ∨ n = 2 ∨ n = 3 ∨ n = 4 ∨ n = 5 ∨ n = 6 ∨ n = 7 := by omega
                · have hv2 : (z : Int) / 34359738368 % 32 = (v : Int) := by have h := HV.out; simp only [Nat.reduceSub, Nat.reduceMul, Nat.reducePow] at h; omega
                  go_wp2
                  refine ⟨⟨1, by omega, by go_num, ?_, hbel2.alloc hbel2.size _⟩, by simp [intOf]⟩
                  rw [HSN.out, ← str_join]
                  rfl
                · have hv2 : (z : Int) / 1073741824 % 32 = (v : Int) := by have h := HV.out; simp only [Nat.reduceSub, Nat.reduceMul, Nat.reducePow] at h; omega
                  go_wp2
                  refine ⟨⟨2, by omega, by go_num, ?_, hbel2.alloc hbel2.size _⟩, by simp [intOf]⟩
                  rw [HSN.out, ← str_join]
                  rfl
                · have hv2 : (z : Int) / 33554432 % 32 = (v : Int) := by have h := HV.out; simp only [Nat.reduceSub, Nat.reduceMul, Nat.reducePow] at h; omega
                  go_wp2
                  refine ⟨⟨3, by omega, by go_num, ?_, hbel2.alloc hbel2.size _⟩, by simp [intOf]⟩
                  rw [HSN.out, ← str_join]
                  rfl
                · have hv2 : (z : Int) / 1048576 % 32 = (v : Int) := by have h := HV.out; simp only [Nat.reduceSub, Nat.reduceMul, Nat.reducePow] at h; omega
                  go_wp2
                  refine ⟨⟨4, by omega, by go_num, ?_, hbel2.alloc hbel2.size _⟩, by simp [intOf]⟩
                  rw [HSN.out, ← str_join]
                  rfl
                · have hv2 : (z : Int) / 32768 % 32 = (v : Int) := by have h := HV.out; simp only [Nat.reduceSub, Nat.reduceMul, Nat.reducePow] at h; omega
                  go_wp2
                  refine ⟨⟨5, by omega, by go_num, ?_, hbel2.alloc hbel2.size _⟩, by simp [intOf]⟩
                  rw [HSN.out, ← str_join]
                  rfl
                · have hv2 : (z : Int) / 1024 % 32 = (v : Int) := by have h := HV.out; simp only [Nat.reduceSub, Nat.reduceMul, Nat.reducePow] at h; omega
                  go_wp2
                  refine ⟨⟨6, by omega, by go_num, ?_, hbel2.alloc hbel2.size _⟩, by simp [intOf]⟩
                  rw [HSN.out, ← str_join]
                  rfl
                · have hv2 : (z : Int) / 32 % 32 = (v : Int) := by have h := HV.out; simp only [Nat.reduceSub, Nat.reduceMul, Nat.reducePow] at h; omega
                  go_wp2
                  refine ⟨⟨7, by omega, by go_num, ?_, hbel2.alloc hbel2.size _⟩, by simp [intOf]⟩
                  rw [HSN.out, ← str_join]
                  rfl
                · have hv2 : (z : Int) % 32 = (v : Int) := by have h := HV.out; simp only [Nat.reduceSub, Nat.reduceMul, Nat.reducePow] at h; omega
                  go_wp2
                  refine ⟨⟨8, by omega, by go_num, ?_, hbel2.alloc hbel2.size _⟩, by simp [intOf]⟩
                  rw [HSN.out, ← str_join]
                  rfl
              · obtain rfl : n = 8 := by omega
                go_wp2
                go_ret2
                exact ⟨hbel2, .inl ⟨HOK.out, by rw [someLetters_all, HZ0.out]; rfl⟩⟩
end Go.Proofs.YtginbfeimiihlaaDoor
