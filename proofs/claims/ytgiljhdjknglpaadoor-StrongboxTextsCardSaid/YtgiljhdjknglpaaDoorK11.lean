/-
  Texts joined: RefChk, BcRbech, Dig. Conditions: those of each.
-/
import Derived.Test.YtgiljhdjknglpaaDoorK10
import Derived.Test.YtgiljhdjknglpaaDoorK4
import Derived.Test.YtgiljhdjknglpaaDoorK7
import Derived.Test.YtgiljhdjknglpaaDoorK9
/-
  The reference's Checksum. Conditions: sizes within the reach.
-/
namespace Go.Proofs.YtgiljhdjknglpaaDoor
open Go.RowKit

/-- What the reference's Checksum answers. -/
def RefChkPost (w : World) (cs : List UInt8) (e : Ending) (w' : World) : Prop :=
  Below w.heap.size w w' ∧ ((∀ c ∈ cs, 0 ≤ posB inB c) ∧ e = .returned (.tuple #[.string ⟨(sumLetters (chkN (natsOf (placesB inB cs)))).toArray⟩, .bool true]) ∨ (∃ c ∈ cs, posB inB c < 0) ∧ e = .returned (.tuple #[.string ⟨#[]⟩, .bool false]))

def turnK (c : Nat) : Nat → Nat
  | 0 => c
  | k + 1 => turnN (turnK c k) 0
theorem turnK_lt (c : Nat) (hc : c < 1099511627776) : ∀ k, turnK c k < 1099511627776
  | 0 => hc
  | k + 1 => turnN_lt _ _ (by omega)
theorem turnK_eight (c : Nat) : turnK c 8 = eight c := rfl

/-- The first letters of a sum, the i-th stands for the bits from 5 * (7 - i) on. -/
def someLetters (c n : Nat) : List UInt8 := (List.range n).map fun i => l32.data.toList.getD (c / 2 ^ (5 * (7 - i)) % 32) 0
theorem someLetters_all (c : Nat) : someLetters c 8 = sumLetters c := by
  unfold someLetters sumLetters eightOf
  rw [List.map_map]
  rfl
theorem someLetters_succ (c n : Nat) : someLetters c (n + 1) = someLetters c n ++ [l32.data.toList.getD (c / 2 ^ (5 * (7 - n)) % 32) 0] := by
  unfold someLetters
  rw [List.range_succ, List.map_append]
  rfl
theorem l32_at {v : Nat} (h : v < 32) : l32.data.toList.getD v 0 = l32[v]'(by show v < l32.size; exact h) := by
  have h2 := Lib.data_getElem? l32 v h
  rw [List.getD_eq_getElem?_getD, h2]
  rfl
theorem posB_range (al : ByteArray) (c : UInt8) : -1 ≤ posB al c ∧ posB al c < al.size := by
  have hge := Lib.indexByte_ge al.data.toList c
  have e : posB al c = Lib.indexByte al.data.toList c := rfl
  refine ⟨by omega, ?_⟩
  by_cases h : posB al c < 0
  · have : 0 ≤ al.size := Nat.zero_le _
    omega
  · obtain ⟨o, ho⟩ : ∃ o : Nat, posB al c = o := ⟨(posB al c).toNat, by omega⟩
    have := (List.getElem?_eq_some_iff.1 (Lib.indexByte_some (l := al.data.toList) (by exact ho)).1).1
    have h2 : al.data.toList.length = al.size := rfl
    omega
theorem natsOf_at {al : ByteArray} {cs : List UInt8} {i : Nat} {c : UInt8} (h : cs[i]? = some c) (h0 : 0 ≤ posB al c) (hs : al.size ≤ 255) : (natsOf (placesB al cs))[i]? = some (posB al c).toNat := by
  unfold natsOf placesB
  rw [List.map_map, List.getElem?_map, h]
  have h1 := posB_range al c
  have h2 := b8_toNat (posB al c)
  show some (b8 (posB al c)).toNat = _
  congr 1
  omega
theorem chkAll_at {ps : List Nat} {i p : Nat} (h : ps[i]? = some p) : chkAll (ps.take (i + 1)) = chk1 (chkAll (ps.take i)) p := by
  unfold chkAll
  rw [List.take_add_one, h, List.foldl_append]
  rfl

/-- A byte that has just been laid, as a text. -/
theorem one_str8 (W : World) (q : UInt8) :
    (convert 23 9 (.slice (some ⟨W.heap.size, 0, none⟩) 1 1)).run Tryd.prog (W.alloc (.cells #[.int .u8 (q.toNat : Int)] 5)) = .ok (.string ⟨#[q]⟩) (W.alloc (.cells #[.int .u8 (q.toNat : Int)] 5)) :=
  run_string_of (P := Tryd.prog) _ 23 9 5 Tryd.underlying23 Tryd.underlying5 Tryd.underlying9 _ _ _ (Byt.made W 5 _ [q] rfl (by unfold maxLen; simp))
theorem str_join {l : List UInt8} {c : UInt8} : (⟨l.toArray⟩ : ByteArray) ++ ⟨#[c]⟩ = ⟨(l ++ [c]).toArray⟩ := by
  apply Go.WideShapes.bytes_inj
  simp

end Go.Proofs.YtgiljhdjknglpaaDoor

/-
  The reference's Bech32. Conditions: sizes within the reach.
-/
namespace Go.Proofs.YtgiljhdjknglpaaDoor
open Go.RowKit

/-- The first n letters of six values. -/
def sixL (z n : Nat) : List UInt8 := (List.range n).map fun i => l32.data.toList.getD (z / 2 ^ (5 * (5 - i)) % 32) 0
theorem sixL_succ (z n : Nat) : sixL z (n + 1) = sixL z n ++ [l32.data.toList.getD (z / 2 ^ (5 * (5 - n)) % 32) 0] := by
  unfold sixL
  rw [List.range_succ, List.map_append]
  rfl
theorem sixL_length (z n : Nat) : (sixL z n).length = n := by simp [sixL]
theorem sixL_all (z : Nat) : sixL z 6 = letters l32 (sixOf z) := by
  unfold sixL letters sixOf
  rw [List.map_map]
  apply List.map_congr_left
  intro i _
  have h : z / 2 ^ (5 * (5 - i)) % 32 < 32 := Nat.mod_lt _ (by omega)
  show _ = l32.data.toList.getD (b8 ((z / 2 ^ (5 * (5 - i)) % 32 : Nat) : Int)).toNat 0
  rw [b8_nat32 _ (by omega)]
theorem letters_take {d : List UInt8} {i : Nat} {q : UInt8} (hq : d[i]? = some q) : letters l32 (d.take (i + 1)) = letters l32 (d.take i) ++ [l32.data.toList.getD q.toNat 0] := by
  unfold letters
  rw [List.take_add_one, hq, List.map_append]
  rfl
theorem letters_append (a b : List UInt8) : letters l32 (a ++ b) = letters l32 a ++ letters l32 b := by unfold letters; rw [List.map_append]
theorem part_bad {h : List UInt8} {q : UInt8} (hq : q ∈ h) (hb : okB q = false ∨ Lib.isUpperB q = true) : partOk h = false := by
  unfold partOk
  rcases hb with hb | hb
  · have : h.all okB = false := List.all_eq_false.2 ⟨q, hq, by rw [hb]; simp⟩
    rw [this, Bool.false_and, Bool.and_false]
  · have : h.any Lib.isUpperB = true := List.any_eq_true.2 ⟨q, hq, hb⟩
    rw [this, Bool.not_true, Bool.and_false, Bool.and_false]
theorem part_good {h : List UInt8} (h0 : ¬ h = []) (ha : ∀ c ∈ h, okB c = true ∧ Lib.isUpperB c = false) : partOk h = true := by
  unfold partOk
  have h1 : h.isEmpty = false := by simpa using h0
  have h2 : h.all okB = true := List.all_eq_true.2 fun c hc => (ha c hc).1
  have h3 : h.any Lib.isUpperB = false := List.any_eq_false.2 fun c hc => by rw [(ha c hc).2]; simp
  rw [h1, h2, h3]
  rfl
theorem ok_int (q : UInt8) (h1 : ¬ (q.toNat : Int) < 33) (h2 : ¬ 126 < (q.toNat : Int)) : okB q = true := by
  unfold okB; rw [decide_eq_true (show (33 : Int) ≤ (q.toNat : Int) by omega), decide_eq_true (show (q.toNat : Int) ≤ 126 by omega)]; rfl

set_option maxRecDepth 100000 in
set_option maxHeartbeats 12800000 in
theorem refbech_any (B : Nat) (s : ByteArray) (x : Value) (d : List UInt8) (m : Bool) (w : World) (hx : Byt w B x d) (hB : B ≤ w.heap.size) (hs : s.size ≤ 140737488355328) (hl : d.length ≤ 20000) :
    Calls Tryd.prog 12 #[.string s, x, .bool m] w fun e w' => e = .returned (.tuple #[.string ⟨(bechS s.data.toList d m).2.toArray⟩, .int .i64 (bechS s.data.toList d m).1]) ∧ Below w.heap.size w w' := by
  obtain ⟨i0, hi, hz0, hz1, hz2⟩ := info_parts info_u8
  obtain ⟨A, cx, hxf⟩ := hx.form
  subst hxf
  have HX := Lib.hid hx
  obtain ⟨h, hh⟩ : ∃ h, h = s.data.toList := ⟨_, rfl⟩
  have hhs : h.length = s.size := by rw [hh]; rfl
  rw [← hh]
  have HH := Lib.hid hh
  have HHS := Lib.hid hhs
  obtain ⟨r, hr⟩ : ∃ r, r = bechS h d m := ⟨_, rfl⟩
  rw [← hr]
  by_cases h1 : 83 < h.length + d.length
  · rw [bechS_size h1] at hr
    subst hr
    by_cases h2 : 83 < s.size
    · have d1 : decide (83 < (s.size : Int)) = true := decide_eq_true (by omega)
      clear hx hh h1 hhs h2
      go_enter Tryd.func12, Tryd.ntmps12
      go_wp2_with fail
      go_ret2
      exact ⟨rfl, Below.refl _ _⟩
    · have d1 : decide (83 < (s.size : Int)) = false := decide_eq_false (by omega)
      have d2 : decide (90 < (s.size : Int) + (d.length : Int) + 7) = true := decide_eq_true (by omega)
      clear hx hh h1 hhs h2
      go_enter Tryd.func12, Tryd.ntmps12
      go_wp2_with fail
      go_ret2
      exact ⟨rfl, Below.refl _ _⟩
  · have d1 : decide (83 < (s.size : Int)) = false := decide_eq_false (by omega)
    have d2 : decide (90 < (s.size : Int) + (d.length : Int) + 7) = false := decide_eq_false (by omega)
    have hfm := fun hf => bechS_form h1 hf m
    have hgd := fun hp hd => bechS_good h1 hp hd m
    rw [← hr] at hfm hgd
    have HFM := Lib.hid hfm
    have HGD := Lib.hid hgd
    have hs83 : s.size ≤ 83 := by omega
    have hd83 : d.length ≤ 83 := by omega
    by_cases h0 : h = []
    · have hr2 := HFM.out (.inl (by rw [h0]; rfl))
      have hd : s.toList.isEmpty = true := by rw [toL, ← hh, h0]; rfl
      subst hr2
      clear hx hh h1 hhs h0 hfm hgd hr
      go_enter Tryd.func12, Tryd.ntmps12
      go_wp2_with fail
      go_ret2
      exact ⟨rfl, Below.refl _ _⟩
    · have hd : s.toList.isEmpty = false := by rw [toL, ← hh]; simpa using h0
      have H0 := Lib.hid h0
      clear hx hh h1 hhs h0 hfm hgd hr
      go_enter Tryd.func12, Tryd.ntmps12
      go_wp2_with fail
      go_loopw [8] (fun j wr => ∃ i : Nat, i ≤ s.size ∧ j = .int .i64 i ∧ wr = w ∧ Hid (∀ c ∈ h.take i, okB c = true ∧ Lib.isUpperB c = false)) (fun j _ => s.size - (intOf j).toNat)
      case atStart => exact ⟨0, Nat.zero_le _, rfl, rfl, Lib.hid (by simp)⟩
      case round =>
        obtain ⟨i, hi2, rfl, rfl, hall⟩ := hrel
        by_cases hlt : i < s.size
        · as_aux_lemma =>
            obtain ⟨q, hq⟩ : ∃ q, q = s[i]'hlt := ⟨_, rfl⟩
            have hqi : h[i]? = some q := by rw [HH.out, hq]; exact Lib.data_getElem? s i hlt
            have hqs : (s[i]'hlt) = q := hq.symm
            have hbad : okB q = false ∨ Lib.isUpperB q = true → r = (3, []) := fun hf => HFM.out (.inl (part_bad (List.mem_of_getElem? hqi) hf))
            have hnext : okB q = true → Lib.isUpperB q = false → ∀ c ∈ h.take (i + 1), okB c = true ∧ Lib.isUpperB c = false := fun h3 h4 c hc => by
              rw [List.take_add_one, hqi] at hc
              rcases List.mem_append.1 hc with h5 | h5
              · exact hall.out c h5
              · rw [List.mem_singleton.1 h5]; exact ⟨h3, h4⟩
            have HBAD := Lib.hid hbad
            have HNX := Lib.hid hnext
            clear hq hqi hbad hnext hall
            by_cases h1 : (q.toNat : Int) < 33
            · have e1 : decide ((q.toNat : Int) < 33) = true := decide_eq_true h1
              have HR := Lib.hid (HBAD.out (.inl (by unfold okB; rw [decide_eq_false (by omega)]; rfl)))
              clear h1
              go_wp2_with fail
              go_ret2
              exact ⟨by rw [HR.out]; rfl, Below.refl _ _⟩
            · have e1 : decide ((q.toNat : Int) < 33) = false := decide_eq_false h1
              by_cases h2 : 126 < (q.toNat : Int)
              · have e2 : decide (126 < (q.toNat : Int)) = true := decide_eq_true h2
                have HR := Lib.hid (HBAD.out (.inl (by unfold okB; rw [decide_eq_false (show ¬ (q.toNat : Int) ≤ 126 by omega), Bool.and_false])))
                clear h1 h2
                go_wp2_with fail
                go_ret2
                exact ⟨by rw [HR.out]; rfl, Below.refl _ _⟩
              · have e2 : decide (126 < (q.toNat : Int)) = false := decide_eq_false h2
                have hok := ok_int q h1 h2
                by_cases h3 : 65 ≤ (q.toNat : Int)
                · have e3 : decide (65 ≤ (q.toNat : Int)) = true := decide_eq_true h3
                  by_cases h4 : (q.toNat : Int) ≤ 90
                  · have e4 : decide ((q.toNat : Int) ≤ 90) = true := decide_eq_true h4
                    have HR := Lib.hid (HBAD.out (.inr (by rw [Lib.isUpperB_int, e3, e4]; rfl)))
                    clear h1 h2 h3 h4 hok
                    go_wp2_with fail
                    go_ret2
                    exact ⟨by rw [HR.out]; rfl, Below.refl _ _⟩
                  · have e4 : decide ((q.toNat : Int) ≤ 90) = false := decide_eq_false h4
                    have HN := Lib.hid (HNX.out hok (by rw [Lib.isUpperB_int, e3, e4]; rfl))
                    clear h1 h2 h3 h4 hok
                    go_wp2_with fail
                    exact ⟨⟨i + 1, by omega, by go_num, trivial, HN⟩, by simp [intOf]; omega⟩
                · have e3 : decide (65 ≤ (q.toNat : Int)) = false := decide_eq_false h3
                  have HN := Lib.hid (HNX.out hok (by rw [Lib.isUpperB_int, e3]; rfl))
                  clear h1 h2 h3 hok
                  go_wp2_with fail
                  exact ⟨⟨i + 1, by omega, by go_num, trivial, HN⟩, by simp [intOf]; omega⟩
        · have hp : partOk h = true := part_good H0.out (fun c hc => hall.out c (by rw [List.take_of_length_le (by have := HHS.out; omega)]; exact hc))
          have HP := Lib.hid hp
          obtain ⟨Y, hY⟩ : ∃ Y : ByteArray, Y = s ++ ⟨#[49]⟩ := ⟨_, rfl⟩
          have hYd : Y = ⟨(h ++ [49] ++ letters l32 (d.take 0)).toArray⟩ := by
            rw [hY, str_of s HH.out]
            show (⟨h.toArray⟩ : ByteArray) ++ ⟨[49].toArray⟩ = _
            rw [str_app]
            simp [letters]
          have HYD := Lib.hid hYd
          obtain ⟨wr0, hwr0⟩ : ∃ x, x = wr := ⟨_, rfl⟩
          subst hwr0
          clear hp hall hYd
          go_wp2_with fail
          rw [← hY]
          clear hY
          go_loopw [10, 9] (fun j ss wr => ∃ i : Nat, i ≤ d.length ∧ j = .int .i64 i ∧ ss = .string ⟨(h ++ [49] ++ letters l32 (d.take i)).toArray⟩ ∧ Hid (∀ v ∈ d.take i, v.toNat < 32) ∧ Below wr0.heap.size wr0 wr) (fun j _ _ => d.length - (intOf j).toNat)
          case atStart => exact ⟨0, Nat.zero_le _, rfl, by rw [HYD.out], Lib.hid (by simp), Below.refl _ _⟩
          case round =>
            obtain ⟨i, hi3, rfl, rfl, hall, hbel⟩ := hrel
            by_cases hlt : i < d.length
            · as_aux_lemma =>
                obtain ⟨A', c', e0, _, _, _, h4⟩ := HX.out
                obtain ⟨e1, e2, e3⟩ := Value.slice.inj e0
                subst e1 e3
                clear e2 e0
                obtain ⟨b, o, rfl, hb, hbc⟩ := h4 (by rintro rfl; simp at hlt)
                obtain ⟨q, hq⟩ : ∃ q, q = d[i] := ⟨_, rfl⟩
                have hci := hbc i _ (List.getElem?_eq_getElem hlt)
                rw [← hq] at hci
                have hbi : ∀ W, Below wr0.heap.size wr0 W → W.cell? ⟨b, o + i, none⟩ = some (.int .u8 (q.toNat : Int)) := fun W hW => (hW.cell (p := ⟨b, _, none⟩) (by show b < _; omega)).trans hci
                have hqi : d[i]? = some q := by rw [hq]; exact List.getElem?_eq_getElem hlt
                have hbw := hbi _ hbel
                have HQI := Lib.hid hqi
                clear hq hci hbc h4 hbi hqi
                by_cases hw : 31 < (q.toNat : Int)
                · have e1 : decide (31 < (q.toNat : Int)) = true := decide_eq_true hw
                  have HR := Lib.hid (HFM.out (.inr (List.any_eq_true.2 ⟨q, List.mem_of_getElem? HQI.out, by unfold wideB; exact e1⟩)))
                  clear hw
                  go_wp2_with fail
                  go_ret2
                  exact ⟨by rw [HR.out]; rfl, hbel⟩
                · have e1 : decide (31 < (q.toNat : Int)) = false := decide_eq_false hw
                  have hq32 : q.toNat < 32 := by omega
                  have hsn := letters_take HQI.out
                  rw [l32_at hq32] at hsn
                  have kc := fun W => one_str8 W ((⟨#[113, 112, 122, 114, 121, 57, 120, 56, 103, 102, 50, 116, 118, 100, 119, 48, 115, 51, 106, 110, 53, 52, 107, 104, 99, 101, 54, 109, 117, 97, 55, 108]⟩ : ByteArray)[q.toNat]'(by show q.toNat < 32; exact hq32))
                  obtain ⟨S, hS⟩ : ∃ S, S = h ++ [49] ++ letters l32 (d.take i) := ⟨_, rfl⟩
                  have hsl : S.length ≤ 200 := by rw [hS, List.length_append, List.length_append, letters_length, List.length_take]; have := HHS.out; simp; omega
                  rw [← hS]
                  have hss : (⟨S.toArray⟩ : ByteArray).size ≤ 200 := by show S.toArray.size ≤ 200; simpa using hsl
                  have hnx : ∀ v ∈ d.take (i + 1), v.toNat < 32 := fun v hv => by
                    rw [List.take_add_one, HQI.out] at hv
                    rcases List.mem_append.1 hv with h5 | h5
                    · exact hall.out v h5
                    · rw [List.mem_singleton.1 h5]; exact hq32
                  have HSN := Lib.hid hsn
                  have HS := Lib.hid hS
                  have HNX := Lib.hid hnx
                  clear hsn hS hnx hw hall
                  go_wp2
                  refine ⟨⟨i + 1, by omega, by go_num, ?_, HNX, hbel.alloc hbel.size _⟩, by simp [intOf]; omega⟩
                  rw [HSN.out, ← List.append_assoc, ← HS.out, ← str_join]
                  rfl
            · have hie : d.take i = d := List.take_of_length_le (by omega)
              rw [hie] at hall
              rw [hie]
              have hwd := wide_of hall.out
              have hrg := HGD.out HP.out hwd
              have HRG := Lib.hid hrg
              have hbs := hbel.size
              have hown : (wr.alloc (.cells #[] 5)).ownsRow wr.heap.size 5 1 (.slice (some ⟨wr.heap.size, 0, none⟩) 0 0) 0 [] :=
                World.ownsRow_made wr #[] 0 (Nat.le_refl _) (by unfold maxLen; omega) rfl
              have hr1 : Byt (wr.alloc (.cells #[] 5)) B (.slice A d.length cx) d := HX.out.below ((hbel.mono hB).alloc (Nat.le_trans hB hbs) _)
              obtain ⟨S, hS⟩ : ∃ S, S = h ++ [49] ++ letters l32 d := ⟨_, rfl⟩
              have hsl : S.length ≤ 200 := by rw [hS, List.length_append, List.length_append, letters_length]; have := HHS.out; simp; omega
              rw [← hS]
              have HS := Lib.hid hS
              have HSL := Lib.hid hsl
              have HR1 := Lib.hid hr1
              have HOWN := Lib.hid hown
              clear hie hall hwd hrg hS hsl hr1 hown
              go_wp2_with (first
                | (at_builtin; refine wpList_append_bytes rfl (.tmp 78) (.tmp 79) 23 rfl wr.heap.size 5 i0 slice_u8 hi hz0 hz1 hz2 _ 0 [] rfl HOWN.out B _ d rfl HR1.out (by omega) (by simp) ?_; intro v1 w1 hown1 hg1 hat1; rw [Nat.zero_add, List.nil_append] at hown1; have hb1 : Below wr.heap.size wr w1 := ((Below.refl _ wr).alloc (Nat.le_refl _) _).grown hg1 (by simp) (fun k hk => by cases hk; exact Nat.le_refl _); have HB1 := Lib.hid hb1; have HO1 := Lib.hid (World.ownsRow.alloc hown1 (.cells #[.int .u8 0, .int .u8 0, .int .u8 0, .int .u8 0, .int .u8 0, .int .u8 0] 5)); have HM := Lib.hid (Byt.made w1 5 [.int .u8 0, .int .u8 0, .int .u8 0, .int .u8 0, .int .u8 0, .int .u8 0] zeros6 rfl (by unfold maxLen zeros6; simp)); obtain ⟨A1, c1, rfl⟩ := own_form hown1; clear hown1 hg1 hat1 hb1)
                | (at_builtin; refine wpList_append_bytes rfl (.tmp 80) (.tmp 81) 23 rfl wr.heap.size 5 i0 slice_u8 hi hz0 hz1 hz2 _ d.length (d.map bv) rfl HO1.out (w1.heap.size + 1) _ zeros6 rfl HM.out (by unfold zeros6; simp; omega) (by have := HB1.out.size; simp; omega) ?_; intro v2 w2 hown2 hg2 hat2; have ho2 : OwnB w2 wr.heap.size v2 (d ++ zeros6) := own_b hown2 rfl; have hb2 : Below wr.heap.size wr w2 := (HB1.out.alloc HB1.out.size _).grown hg2 (by have := HB1.out.size; simp; omega) (fun j hj => (World.ownsRow.lt HO1.out j hj).1); have HO2 := Lib.hid ho2; have HB2 := Lib.hid hb2; obtain ⟨A2, c2, hv2⟩ := ho2.form; subst hv2; clear ho2 hown2 hg2 hat2 hb2))
              have C := rsum_any w2.heap.size s _ (d ++ zeros6) w2 (Byt.of_own HO2.out) (Nat.le_refl _) (by omega) (by rw [List.length_append]; show d.length + 6 ≤ 60000; omega)
              rw [List.length_append, ← HH.out] at C
              have HC := Lib.hid C
              clear C
              refine HC.out.mono ?_
              rintro e w3 ⟨rfl, hb3⟩
              have HBA := Lib.hid (hbel.trans ((HB2.out.trans (hb3.mono HB2.out.size)).mono hbs))
              obtain ⟨c0, hc0⟩ : ∃ c0, c0 = sumB h (d ++ zeros6) := ⟨_, rfl⟩
              have hc0l : c0 < 1073741824 := by rw [hc0]; exact sumB_lt _ _
              rw [← hc0]
              have HC0 := Lib.hid hc0
              clear hc0 hb3 HC HB2 HO2 HB1 HO1 HM HR1 HOWN
              cases m with
              | false =>
                as_aux_lemma =>
                  have hx : bits .xor .u64 (c0 : Int) 1 = ((c0 ^^^ lastX false : Nat) : Int) := bits_xor_u64_nat c0 (lastX false) (by omega) (by have := lastX_lt false; omega)
                  obtain ⟨z, hz⟩ : ∃ z, z = c0 ^^^ lastX false := ⟨_, rfl⟩
                  have hzl : z < 1073741824 := by rw [hz]; exact Nat.xor_lt_two_pow (n := 30) hc0l (lastX_lt false)
                  rw [← hz] at hx
                  have hL : letters l32 d ++ sixL z 6 = letters l32 (d ++ closeB h d false) := by rw [sixL_all, letters_append]; unfold closeB; rw [← HC0.out, ← hz]
                  have HL := Lib.hid hL
                  clear hz hL
                  go_wp2_with fail
                  clear hx
                  go_loopw [12, 9] (fun j ss wr => ∃ n : Nat, n ≤ 6 ∧ j = .int .i64 (5 - (n : Int)) ∧ ss = .string ⟨(S ++ sixL z n).toArray⟩ ∧ Below w3.heap.size w3 wr) (fun j _ _ => (intOf j + 1).toNat)
                  case atStart => exact ⟨0, by omega, rfl, by simp [sixL], Below.refl _ _⟩
                  case round =>
                    obtain ⟨n, hn, rfl, rfl, hbel2⟩ := hrel
                    by_cases h8 : n < 6
                    · obtain ⟨v, hv⟩ : ∃ v, v = z / 2 ^ (5 * (5 - n)) % 32 := ⟨_, rfl⟩
                      have hv32 : v < 32 := by rw [hv]; exact Nat.mod_lt _ (by omega)
                      have hsn : sixL z (n + 1) = sixL z n ++ [l32[v]'(by show v < l32.size; exact hv32)] := by rw [sixL_succ, ← hv, l32_at hv32]
                      have kc := fun W => one_str8 W ((⟨#[113, 112, 122, 114, 121, 57, 120, 56, 103, 102, 50, 116, 118, 100, 119, 48, 115, 51, 106, 110, 53, 52, 107, 104, 99, 101, 54, 109, 117, 97, 55, 108]⟩ : ByteArray)[v]'(by show v < 32; exact hv32))
                      obtain ⟨T, hT⟩ : ∃ T, T = S ++ sixL z n := ⟨_, rfl⟩
                      have htl : T.length ≤ 210 := by rw [hT, List.length_append, sixL_length]; have := HSL.out; omega
                      rw [← hT]
                      have hss : (⟨T.toArray⟩ : ByteArray).size ≤ 210 := by show T.toArray.size ≤ 210; simpa using htl
                      have HSN := Lib.hid hsn
                      have HV := Lib.hid hv
                      have HT := Lib.hid hT
                      clear hsn hv hT
                      obtain rfl | rfl | rfl | rfl | rfl | rfl : n = 0 ∨ n = 1 ∨ n = 2 ∨ n = 3 ∨ n = 4 ∨ n = 5 := by omega
                      · have hv2 : (z : Int) / 33554432 % 32 = (v : Int) := by have h := HV.out; simp only [Nat.reduceSub, Nat.reduceMul, Nat.reducePow] at h; omega
                        go_wp2
                        refine ⟨⟨1, by omega, by go_num, ?_, hbel2.alloc hbel2.size _⟩, by simp [intOf]⟩
                        rw [HSN.out, ← List.append_assoc, ← HT.out, ← str_join]
                        rfl
                      · have hv2 : (z : Int) / 1048576 % 32 = (v : Int) := by have h := HV.out; simp only [Nat.reduceSub, Nat.reduceMul, Nat.reducePow] at h; omega
                        go_wp2
                        refine ⟨⟨2, by omega, by go_num, ?_, hbel2.alloc hbel2.size _⟩, by simp [intOf]⟩
                        rw [HSN.out, ← List.append_assoc, ← HT.out, ← str_join]
                        rfl
                      · have hv2 : (z : Int) / 32768 % 32 = (v : Int) := by have h := HV.out; simp only [Nat.reduceSub, Nat.reduceMul, Nat.reducePow] at h; omega
                        go_wp2
                        refine ⟨⟨3, by omega, by go_num, ?_, hbel2.alloc hbel2.size _⟩, by simp [intOf]⟩
                        rw [HSN.out, ← List.append_assoc, ← HT.out, ← str_join]
                        rfl
                      · have hv2 : (z : Int) / 1024 % 32 = (v : Int) := by have h := HV.out; simp only [Nat.reduceSub, Nat.reduceMul, Nat.reducePow] at h; omega
                        go_wp2
                        refine ⟨⟨4, by omega, by go_num, ?_, hbel2.alloc hbel2.size _⟩, by simp [intOf]⟩
                        rw [HSN.out, ← List.append_assoc, ← HT.out, ← str_join]
                        rfl
                      · have hv2 : (z : Int) / 32 % 32 = (v : Int) := by have h := HV.out; simp only [Nat.reduceSub, Nat.reduceMul, Nat.reducePow] at h; omega
                        go_wp2
                        refine ⟨⟨5, by omega, by go_num, ?_, hbel2.alloc hbel2.size _⟩, by simp [intOf]⟩
                        rw [HSN.out, ← List.append_assoc, ← HT.out, ← str_join]
                        rfl
                      · have hv2 : (z : Int) % 32 = (v : Int) := by have h := HV.out; simp only [Nat.reduceSub, Nat.reduceMul, Nat.reducePow] at h; omega
                        go_wp2
                        refine ⟨⟨6, by omega, by go_num, ?_, hbel2.alloc hbel2.size _⟩, by simp [intOf]⟩
                        rw [HSN.out, ← List.append_assoc, ← HT.out, ← str_join]
                        rfl
                    · obtain rfl : n = 6 := by omega
                      go_wp2
                      go_ret2
                      refine ⟨?_, HBA.out.trans (hbel2.mono HBA.out.size)⟩
                      rw [HRG.out, HS.out, List.append_assoc, HL.out]
                      rfl
              | true =>
                as_aux_lemma =>
                  have hx : bits .xor .u64 (c0 : Int) 734539939 = ((c0 ^^^ lastX true : Nat) : Int) := bits_xor_u64_nat c0 (lastX true) (by omega) (by have := lastX_lt true; omega)
                  obtain ⟨z, hz⟩ : ∃ z, z = c0 ^^^ lastX true := ⟨_, rfl⟩
                  have hzl : z < 1073741824 := by rw [hz]; exact Nat.xor_lt_two_pow (n := 30) hc0l (lastX_lt true)
                  rw [← hz] at hx
                  have hL : letters l32 d ++ sixL z 6 = letters l32 (d ++ closeB h d true) := by rw [sixL_all, letters_append]; unfold closeB; rw [← HC0.out, ← hz]
                  have HL := Lib.hid hL
                  clear hz hL
                  go_wp2_with fail
                  clear hx
                  go_loopw [12, 9] (fun j ss wr => ∃ n : Nat, n ≤ 6 ∧ j = .int .i64 (5 - (n : Int)) ∧ ss = .string ⟨(S ++ sixL z n).toArray⟩ ∧ Below w3.heap.size w3 wr) (fun j _ _ => (intOf j + 1).toNat)
                  case atStart => exact ⟨0, by omega, rfl, by simp [sixL], Below.refl _ _⟩
                  case round =>
                    obtain ⟨n, hn, rfl, rfl, hbel2⟩ := hrel
                    by_cases h8 : n < 6
                    · obtain ⟨v, hv⟩ : ∃ v, v = z / 2 ^ (5 * (5 - n)) % 32 := ⟨_, rfl⟩
                      have hv32 : v < 32 := by rw [hv]; exact Nat.mod_lt _ (by omega)
                      have hsn : sixL z (n + 1) = sixL z n ++ [l32[v]'(by show v < l32.size; exact hv32)] := by rw [sixL_succ, ← hv, l32_at hv32]
                      have kc := fun W => one_str8 W ((⟨#[113, 112, 122, 114, 121, 57, 120, 56, 103, 102, 50, 116, 118, 100, 119, 48, 115, 51, 106, 110, 53, 52, 107, 104, 99, 101, 54, 109, 117, 97, 55, 108]⟩ : ByteArray)[v]'(by show v < 32; exact hv32))
                      obtain ⟨T, hT⟩ : ∃ T, T = S ++ sixL z n := ⟨_, rfl⟩
                      have htl : T.length ≤ 210 := by rw [hT, List.length_append, sixL_length]; have := HSL.out; omega
                      rw [← hT]
                      have hss : (⟨T.toArray⟩ : ByteArray).size ≤ 210 := by show T.toArray.size ≤ 210; simpa using htl
                      have HSN := Lib.hid hsn
                      have HV := Lib.hid hv
                      have HT := Lib.hid hT
                      clear hsn hv hT
                      obtain rfl | rfl | rfl | rfl | rfl | rfl : n = 0 ∨ n = 1 ∨ n = 2 ∨ n = 3 ∨ n = 4 ∨ n = 5 := by omega
                      · have hv2 : (z : Int) / 33554432 % 32 = (v : Int) := by have h := HV.out; simp only [Nat.reduceSub, Nat.reduceMul, Nat.reducePow] at h; omega
                        go_wp2
                        refine ⟨⟨1, by omega, by go_num, ?_, hbel2.alloc hbel2.size _⟩, by simp [intOf]⟩
                        rw [HSN.out, ← List.append_assoc, ← HT.out, ← str_join]
                        rfl
                      · have hv2 : (z : Int) / 1048576 % 32 = (v : Int) := by have h := HV.out; simp only [Nat.reduceSub, Nat.reduceMul, Nat.reducePow] at h; omega
                        go_wp2
                        refine ⟨⟨2, by omega, by go_num, ?_, hbel2.alloc hbel2.size _⟩, by simp [intOf]⟩
                        rw [HSN.out, ← List.append_assoc, ← HT.out, ← str_join]
                        rfl
                      · have hv2 : (z : Int) / 32768 % 32 = (v : Int) := by have h := HV.out; simp only [Nat.reduceSub, Nat.reduceMul, Nat.reducePow] at h; omega
                        go_wp2
                        refine ⟨⟨3, by omega, by go_num, ?_, hbel2.alloc hbel2.size _⟩, by simp [intOf]⟩
                        rw [HSN.out, ← List.append_assoc, ← HT.out, ← str_join]
                        rfl
                      · have hv2 : (z : Int) / 1024 % 32 = (v : Int) := by have h := HV.out; simp only [Nat.reduceSub, Nat.reduceMul, Nat.reducePow] at h; omega
                        go_wp2
                        refine ⟨⟨4, by omega, by go_num, ?_, hbel2.alloc hbel2.size _⟩, by simp [intOf]⟩
                        rw [HSN.out, ← List.append_assoc, ← HT.out, ← str_join]
                        rfl
                      · have hv2 : (z : Int) / 32 % 32 = (v : Int) := by have h := HV.out; simp only [Nat.reduceSub, Nat.reduceMul, Nat.reducePow] at h; omega
                        go_wp2
                        refine ⟨⟨5, by omega, by go_num, ?_, hbel2.alloc hbel2.size _⟩, by simp [intOf]⟩
                        rw [HSN.out, ← List.append_assoc, ← HT.out, ← str_join]
                        rfl
                      · have hv2 : (z : Int) % 32 = (v : Int) := by have h := HV.out; simp only [Nat.reduceSub, Nat.reduceMul, Nat.reducePow] at h; omega
                        go_wp2
                        refine ⟨⟨6, by omega, by go_num, ?_, hbel2.alloc hbel2.size _⟩, by simp [intOf]⟩
                        rw [HSN.out, ← List.append_assoc, ← HT.out, ← str_join]
                        rfl
                    · obtain rfl : n = 6 := by omega
                      go_wp2
                      go_ret2
                      refine ⟨?_, HBA.out.trans (hbel2.mono HBA.out.size)⟩
                      rw [HRG.out, HS.out, List.append_assoc, HL.out]
                      rfl
end Go.Proofs.YtgiljhdjknglpaaDoor

/-
  Digits: text.hexValue, the reference's Digit, value and place. Conditions: none.
-/
namespace Go.Proofs.YtgiljhdjknglpaaDoor
open Go.RowKit

set_option maxRecDepth 100000 in
set_option maxHeartbeats 800000 in
theorem hexValue_any (q : Int) (w : World) (h0 : 0 ≤ q) (h1 : q ≤ 255) :
    Calls Tryd.prog 32 #[.int .u8 q] w fun e w' => e = .returned (.int .u8 (if 15 < q then q - 6 else q)) ∧ w = w' := by
  by_cases h : 15 < q
  · have hw : IntKind.u8.wrap (q - 6) = q - 6 := by rw [IntKind.wrap_u8]; omega
    go_enter Tryd.func32, Tryd.ntmps32
    go_wp2
    go_ret
    exact ⟨rfl, rfl⟩
  · go_enter Tryd.func32, Tryd.ntmps32
    go_wp2
    go_ret
    exact ⟨rfl, rfl⟩

set_option maxRecDepth 100000 in
set_option maxHeartbeats 800000 in
theorem digit_any (q : Int) (w : World) (h0 : 0 ≤ q) (h1 : q ≤ 15) :
    Calls Tryd.prog 37 #[.int .u8 q] w fun e w' => e = .returned (.int .u8 (if q < 10 then 48 + q else 87 + q)) ∧ w = w' := by
  by_cases h : q < 10
  · go_enter Tryd.func37, Tryd.ntmps37
    go_wp2
    go_ret
    exact ⟨rfl, rfl⟩
  · go_enter Tryd.func37, Tryd.ntmps37
    go_wp2
    go_ret
    refine ⟨?_, rfl⟩
    show Ending.returned (.int .u8 (97 + q - 10)) = Ending.returned (.int .u8 (87 + q))
    have : 97 + q - 10 = 87 + q := by omega
    rw [this]

end Go.Proofs.YtgiljhdjknglpaaDoor
