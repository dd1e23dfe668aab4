/-
  Texts joined: TEq, BcPart, B5C. Conditions: those of each.
-/
import Derived.Test.YtocblkacdoahfaaGreatDoorJ5
import Derived.Test.YtocblkacdoahfaaGreatDoorJ22
import Derived.Lib.AppendZerosOnto
import Derived.Lib.AppendZeros
import Derived.Deep.CutBlock
import Derived.Deep.DeepCutAuto
import Derived.Deep.LoopGhost
/-
  The references' Equal, and the laws' short. Conditions: none.
-/
namespace Go.Proofs.YtocblkacdoahfaaGreatDoor.Tx
open Go.RowKit

set_option maxRecDepth 100000 in
set_option maxHeartbeats 400000 in
theorem equal_any (B B' : Nat) (x y : Value) (xs ys : List UInt8) (w : World) (hx : Byt w B x xs) (hy : Byt w B' y ys) :
    Calls Tryz.prog 41 #[x, y] w fun e w' => e = .returned (.bool (xs == ys)) ∧ w = w' := by
  have h1 := run_string_of (P := Tryz.prog) w 23 9 5 slice_u8 Tryz.underlying5 Tryz.underlying9 B x xs hx
  have h2 := run_string_of (P := Tryz.prog) w 23 9 5 slice_u8 Tryz.underlying5 Tryz.underlying9 B' y ys hy
  go_enter Tryz.func41, Tryz.ntmps41
  go_wp2
  go_ret
  exact ⟨rfl, rfl⟩

theorem equal_yes (B B' : Nat) (x y : Value) (xs ys : List UInt8) (w : World) (hx : Byt w B x xs) (hy : Byt w B' y ys) (h : xs = ys) :
    Calls Tryz.prog 41 #[x, y] w fun e w' => e = .returned (.bool true) ∧ w = w' :=
  (equal_any B B' x y xs ys w hx hy).mono fun _ _ ⟨he, hw⟩ => ⟨by rw [he, h]; simp, hw⟩

theorem Byt.take_ {w : World} {B c : Nat} {A : Option Addr} {xs : List UInt8} (h : Byt w B (.slice A xs.length c) xs) {k : Nat} (hk : k ≤ xs.length) : Byt w B (.slice A k c) (xs.take k) := by
  obtain ⟨A', c', e, h1, h2, h3, h4⟩ := h
  injection e with e1 e2 e3
  subst e1 e3
  refine ⟨A, c, by rw [List.length_take, Nat.min_eq_left hk], by rw [List.length_take]; omega, h2, fun h => ?_, fun hne => ?_⟩
  · obtain ⟨rfl, hc⟩ := h3 h
    exact ⟨by simp, hc⟩
  · obtain ⟨b, o, e1, hb, hc⟩ := h4 (by rintro rfl; simp at hne)
    refine ⟨b, o, e1, hb, fun j u hu => hc j u ?_⟩
    rw [List.getElem?_take] at hu
    split at hu
    · exact hu
    · cases hu

end Go.Proofs.YtocblkacdoahfaaGreatDoor.Tx

/-
  text.isPrintable, text.isPart; slices.ContainsFunc with the test of wide values. Conditions: sizes within the reach.
-/
namespace Go.Proofs.YtocblkacdoahfaaGreatDoor.Tx
open Go.RowKit

set_option maxRecDepth 100000 in
set_option maxHeartbeats 1600000 in
theorem printable_any (s : ByteArray) (w : World) (hs : s.size ≤ 140737488355328) :
    Calls Tryz.prog 83 #[.string s] w fun e w' => e = .returned (.bool (s.data.toList.all okB)) ∧ w = w' := by
  obtain ⟨h, hh⟩ : ∃ h, h = s.data.toList := ⟨_, rfl⟩
  have hhs : h.length = s.size := by rw [hh]; rfl
  rw [← hh]
  have HH := Lib.hid hh
  have HHS := Lib.hid hhs
  clear hh hhs
  go_enter Tryz.func83, Tryz.ntmps83
  go_wp2_with fail
  go_loopw [6] (fun j wr => ∃ i : Nat, i ≤ s.size ∧ j = .int .i64 i ∧ wr = w ∧ Hid (∀ c ∈ h.take i, okB c = true)) (fun j _ => s.size - (intOf j).toNat)
  case atStart => exact ⟨0, Nat.zero_le _, rfl, rfl, Lib.hid (by simp)⟩
  case round =>
    obtain ⟨i, hi, rfl, rfl, hall⟩ := hrel
    by_cases hlt : i < s.size
    · obtain ⟨q, hq⟩ : ∃ q, q = s[i]'hlt := ⟨_, rfl⟩
      have hqi : h[i]? = some q := by rw [HH.out, hq]; exact Lib.data_getElem? s i hlt
      have hqs : (s[i]'hlt) = q := hq.symm
      have hbad : okB q = false → h.all okB = false := fun hf => by
        rw [List.all_eq_false]
        exact ⟨q, List.mem_of_getElem? hqi, by rw [hf]; simp⟩
      have htk : h.take (i + 1) = h.take i ++ [q] := by rw [List.take_add_one, hqi]; rfl
      have HBAD := Lib.hid hbad
      have HTK := Lib.hid htk
      clear hq hqi hbad htk
      by_cases h1 : (q.toNat : Int) < 33
      · have d1 : decide ((q.toNat : Int) < 33) = true := decide_eq_true h1
        have hf := HBAD.out (by unfold okB; rw [decide_eq_false (by omega)]; rfl)
        have HF := Lib.hid hf
        clear h1 hf
        go_wp2
        go_ret
        exact ⟨by rw [HF.out]; rfl, rfl⟩
      · have d1 : decide ((q.toNat : Int) < 33) = false := decide_eq_false h1
        by_cases h2 : 126 < (q.toNat : Int)
        · have d2 : decide (126 < (q.toNat : Int)) = true := decide_eq_true h2
          have hf := HBAD.out (by unfold okB; rw [decide_eq_false (show ¬ (q.toNat : Int) ≤ 126 by omega), Bool.and_false])
          have HF := Lib.hid hf
          clear h1 h2 hf
          go_wp2
          go_ret
          exact ⟨by rw [HF.out]; rfl, rfl⟩
        · have d2 : decide (126 < (q.toNat : Int)) = false := decide_eq_false h2
          have hok : okB q = true := by unfold okB; rw [decide_eq_true (show (33 : Int) ≤ (q.toNat : Int) by omega), decide_eq_true (show (q.toNat : Int) ≤ 126 by omega)]; rfl
          have hnext : ∀ c ∈ h.take (i + 1), okB c = true := by
            rw [HTK.out]
            intro c hc
            rcases List.mem_append.1 hc with h3 | h3
            · exact hall.out c h3
            · rw [List.mem_singleton.1 h3]; exact hok
          have HN := Lib.hid hnext
          clear h1 h2 hok hnext hall
          go_wp2
          exact ⟨⟨i + 1, by omega, by go_num, trivial, HN⟩, by simp [intOf]; omega⟩
    · have hall2 : h.all okB = true := by
        rw [List.all_eq_true]
        intro c hc
        refine hall.out c ?_
        rw [List.take_of_length_le (by have := HHS.out; omega)]
        exact hc
      have HA := Lib.hid hall2
      clear hall hall2
      go_wp2
      go_ret
      exact ⟨by rw [HA.out]; rfl, rfl⟩

theorem ok_ascii {l : List UInt8} (h : l.all okB = true) : ∀ (j : Nat) (b : UInt8), l[j]? = some b → b.toNat < 128 := by
  intro j b hb
  have := List.all_eq_true.1 h b (List.mem_of_getElem? hb)
  unfold okB at this
  simp only [Bool.and_eq_true, decide_eq_true_eq] at this
  omega

theorem ret_bool {a b : Bool} (h : a = b) : Ending.returned (.bool a) = Ending.returned (.bool b) := by rw [h]
theorem toL (s : ByteArray) : s.toList = s.data.toList := ByteArray.toList_eq s
theorem toL_mk (l : List UInt8) : (⟨l.toArray⟩ : ByteArray).toList = l := by rw [toL]

set_option maxRecDepth 100000 in
set_option maxHeartbeats 1600000 in
theorem part_any (s : ByteArray) (w : World) (hs : s.size ≤ 140737488355328) :
    Calls Tryz.prog 56 #[.string s] w fun e w' => e = .returned (.bool (partOk s.data.toList)) ∧ Below w.heap.size w w' := by
  have P := Lib.hid (printable_any s w hs)
  obtain ⟨h, hh⟩ : ∃ h, h = s.data.toList := ⟨_, rfl⟩
  obtain ⟨p, hp⟩ : ∃ p, p = s.data.toList.all okB := ⟨_, rfl⟩
  rw [← hp] at P
  rw [← hh] at hp ⊢
  by_cases h0 : h = []
  · have hr : partOk h = false := by rw [h0]; rfl
    have hd : s.toList = [] := by rw [toL, ← hh, h0]
    have HR := Lib.hid hr
    clear hp h0 hr hh
    go_enter Tryz.func56, Tryz.ntmps56
    go_wp2_with fail
    go_ret
    exact ⟨by rw [HR.out]; rfl, Below.refl _ _⟩
  · have hd : ¬ s.toList = [] := by rw [toL, ← hh]; exact h0
    have hne : h.isEmpty = false := by simpa using h0
    cases p
    · have HR : Hid (partOk h = false) := Lib.hid (by unfold partOk; rw [hne, ← hp]; rfl)
      clear hp h0 hh hne
      go_enter Tryz.func56, Tryz.ntmps56
      go_wp2_with fail
      refine P.out.mono ?_
      rintro e w' ⟨rfl, rfl⟩
      go_wp2_with fail
      go_ret
      exact ⟨by rw [HR.out]; rfl, Below.refl _ _⟩
    · have HR : Hid (partOk h = (s.toList == (⟨(lowS h).toArray⟩ : ByteArray).toList)) := Lib.hid (by unfold partOk; rw [hne, ← hp, toL_mk, toL, ← hh, low_same]; rfl)
      have C := Tryz.strings_ToLower_ascii s w hs (ok_ascii (by rw [← hh]; exact hp.symm))
      have e1 : Lib.toLowerA s.data.toList = lowS h := by rw [← hh]; rfl
      rw [e1] at C
      obtain ⟨low, hlow⟩ : ∃ low : ByteArray, low = ⟨(lowS h).toArray⟩ := ⟨_, rfl⟩
      rw [← hlow] at C HR
      obtain ⟨z, hz⟩ : ∃ z, (s.toList == low.toList) = z := ⟨_, rfl⟩
      rw [hz] at HR
      have HC := Lib.hid C
      clear hp h0 hh hne C hlow e1
      go_enter Tryz.func56, Tryz.ntmps56
      go_wp2_with fail
      refine P.out.mono ?_
      rintro e w' ⟨rfl, rfl⟩
      go_wp2_with fail
      refine HC.out.mono ?_
      rintro e w' ⟨rfl, hb⟩
      go_wp2_with fail
      go_ret
      refine ⟨?_, hb⟩
      have hem : s.toList.isEmpty = false := by simpa using hd
      rw [HR.out]
      show Ending.returned (.bool (!s.toList.isEmpty && z)) = _
      rw [hem]
      rfl

theorem wide_fun (q : Int) (w : World) : Calls Tryz.prog 58 #[.int .u8 q] w fun e w' => e = .returned (.bool (decide (31 < q))) ∧ w = w' := by
  go_enter Tryz.func58, Tryz.ntmps58
  go_wp2
  go_ret
  exact ⟨rfl, rfl⟩
theorem enter_wide : ∀ args w, (callFunc 58 args).run Tryz.prog w = .ok (.enter 58 args) w := enters_of Tryz.func58 (by kernel_rfl) rfl

set_option maxRecDepth 100000 in
set_option maxHeartbeats 1600000 in
theorem index_wide (B : Nat) (x : Value) (d : List UInt8) (w : World) (hx : Byt w B x d) (hB : B ≤ w.heap.size) :
    Calls Tryz.prog 85 #[x, .func (.func 58) #[] #[]] w fun e w' => (∃ k : Int, e = .returned (.int .i64 k) ∧ decide (0 ≤ k) = d.any wideB) ∧ w = w' := by
  have hlen := hx.len
  unfold maxLen at hlen
  have HX := Lib.hid hx
  obtain ⟨A, c, rfl⟩ := hx.form
  clear hx
  have HW := Lib.hid wide_fun
  go_enter Tryz.func85, Tryz.ntmps85
  go_wp2_with fail
  go_loopw [8] (fun j wr => ∃ i : Nat, i ≤ d.length ∧ j = .int .i64 i ∧ wr = w ∧ Hid (∀ c ∈ d.take i, wideB c = false)) (fun j _ => d.length - (intOf j).toNat)
  case atStart => exact ⟨0, Nat.zero_le _, rfl, rfl, Lib.hid (by simp)⟩
  case round =>
    obtain ⟨i, hi, rfl, rfl, hall⟩ := hrel
    by_cases hlt : i < d.length
    · obtain ⟨A', c', e0, _, _, _, h4⟩ := HX.out
      obtain ⟨e1, e2, e3⟩ := Value.slice.inj e0
      subst e1 e3
      clear e2 e0
      obtain ⟨b, o, rfl, hb, hbc⟩ := h4 (by rintro rfl; simp at hlt)
      obtain ⟨q, hq⟩ : ∃ q, q = d[i] := ⟨_, rfl⟩
      have hci := hbc i _ (List.getElem?_eq_getElem hlt)
      rw [← hq] at hci
      have hbi : wr.cell? ⟨b, o + i, none⟩ = some (.int .u8 (q.toNat : Int)) := hci
      have hqi : d[i]? = some q := by rw [hq]; exact List.getElem?_eq_getElem hlt
      have htk : d.take (i + 1) = d.take i ++ [q] := by rw [List.take_add_one, hqi]; rfl
      have HTK := Lib.hid htk
      have HQI := Lib.hid hqi
      have hen := enter_wide
      clear hq hci hbc h4 hqi htk
      go_wp2_with fail
      refine (HW.out _ _).mono ?_
      rintro e w' ⟨rfl, rfl⟩
      by_cases hw : 31 < (q.toNat : Int)
      · have hd : decide (31 < (q.toNat : Int)) = true := decide_eq_true hw
        have hr : d.any wideB = true := List.any_eq_true.2 ⟨q, List.mem_of_getElem? HQI.out, hd⟩
        have HR := Lib.hid hr
        clear hr hw
        go_wp2_with fail
        go_ret
        exact ⟨⟨_, rfl, by rw [HR.out]; simp⟩, rfl⟩
      · have hd : decide (31 < (q.toNat : Int)) = false := decide_eq_false hw
        have hnext : ∀ c ∈ d.take (i + 1), wideB c = false := by
          rw [HTK.out]
          intro c hc
          rcases List.mem_append.1 hc with h3 | h3
          · exact hall.out c h3
          · rw [List.mem_singleton.1 h3]; exact hd
        have HN := Lib.hid hnext
        clear hnext hw hall
        go_wp2_with fail
        exact ⟨⟨i + 1, by omega, by go_num, trivial, HN⟩, by simp [intOf]; omega⟩
    · have hr : d.any wideB = false := by
        rw [List.any_eq_false]
        intro c hc
        rw [hall.out c (by rw [List.take_of_length_le (by omega)]; exact hc)]
        simp
      have HR := Lib.hid hr
      clear hr hall
      go_wp2_with fail
      go_ret
      exact ⟨⟨_, rfl, by rw [HR.out]; rfl⟩, rfl⟩

theorem contains_wide (B : Nat) (x : Value) (d : List UInt8) (w : World) (hx : Byt w B x d) (hB : B ≤ w.heap.size) :
    Calls Tryz.prog 57 #[x, .func (.func 58) #[] #[]] w fun e w' => e = .returned (.bool (d.any wideB)) ∧ w = w' := by
  have H := Lib.hid (index_wide B x d w hx hB)
  obtain ⟨A, c, rfl⟩ := hx.form
  clear hx
  go_enter Tryz.func57, Tryz.ntmps57
  go_wp2_with fail
  refine H.out.mono ?_
  rintro e w' ⟨⟨k, rfl, hk⟩, rfl⟩
  have HK := Lib.hid hk
  clear hk
  go_wp2_with fail
  go_ret
  exact ⟨by rw [← HK.out]; rfl, rfl⟩
end Go.Proofs.YtocblkacdoahfaaGreatDoor.Tx

/-
  slices.Concat of slices of bytes. Conditions: sizes within the reach.
-/
namespace Go.Proofs.YtocblkacdoahfaaGreatDoor.Tx
open Go.RowKit

def Fresh (w : World) (xs : List UInt8) (e : Ending) (w' : World) : Prop :=
  ∃ A c, e = .returned (.slice A xs.length c) ∧ w'.ownsRow w.heap.size 5 1 (.slice A xs.length c) xs.length (xs.map bv) ∧ Below w.heap.size w w'
theorem fresh_v {w w' : World} {xs : List UInt8} {e : Ending} (h : Fresh w xs e w') : ∃ v, e = .returned v ∧ OwnB w' w.heap.size v xs ∧ Below w.heap.size w w' := by
  obtain ⟨A, c, he, ho, hb⟩ := h
  exact ⟨_, he, ho, hb⟩
theorem byt_later {w : World} {B : Nat} {v : Value} {xs : List UInt8} (h : Byt w B v xs) (o : Obj) : Byt (w.alloc o) B v xs := by
  obtain ⟨A, c, hv, hl, hm, hA, hx⟩ := h
  refine ⟨A, c, hv, hl, hm, hA, fun hne => ?_⟩
  obtain ⟨b, o2, e, hb, hc⟩ := hx hne
  exact ⟨b, o2, e, hb, fun j u hu => cell_later ((Below.refl _ w).alloc (Nat.le_refl _) o) (hc j u hu)⟩
theorem fresh_of {w w' : World} {v : Value} {xs : List UInt8} (h : w'.ownsRow w.heap.size 5 1 v xs.length (xs.map bv)) (hb : Below w.heap.size w w') : Fresh w xs (.returned v) w' := by
  obtain ⟨A, c, rfl⟩ := own_form h
  exact ⟨A, c, rfl, h, hb⟩
theorem own_b {w : World} {base n : Nat} {v : Value} {ys zs : List UInt8} (h : w.ownsRow base 5 1 v n (ys.map bv ++ zs.map bv)) (hn : n = ys.length + zs.length) : OwnB w base v (ys ++ zs) := by
  subst hn
  unfold OwnB
  rw [List.length_append, List.map_append]
  exact h
theorem fresh_own {w w' : World} {v : Value} {xs : List UInt8} (h : OwnB w' w.heap.size v xs) (hb : Below w.heap.size w w') : Fresh w xs (.returned v) w' := fresh_of h hb
theorem grow_none (w : World) : Calls Tryz.prog 50 #[.slice none 0 0, .int .i64 0] w fun e w' => e = .returned (.slice none 0 0) ∧ w = w' := by
  go_enter Tryz.func50, Tryz.ntmps50
  go_wp2_with fail
  go_ret
  exact ⟨rfl, rfl⟩

set_option maxRecDepth 100000 in
set_option maxHeartbeats 1600000 in
theorem grow_some (n : Nat) (h0 : 0 < n) (hn : n ≤ 100000000) (w : World) :
    Calls Tryz.prog 50 #[.slice none 0 0, .int .i64 (n : Int)] w (Fresh w []) := by
  obtain ⟨i0, hi, hz0, hz1, hz2⟩ := info_parts info_u8
  obtain ⟨G, hG⟩ : ∃ G, G = grownCap w n 0 5 := ⟨_, rfl⟩
  have hrz : ∀ ty, (Builtin.append_ #[23, 3] ty #[.slice none 0 0, .int .i64 (n : Int)]).run Tryz.prog w =
      .ok (.slice (some ⟨w.heap.size, 0, none⟩) n G) (w.drew.alloc (.cells (#[] ++ Builtin.zeroCells (Value.int .u8 0).cells n ++ Builtin.zeroCells (Value.int .u8 0).cells (G - n)) 5)) := fun ty => by
    have h := Lib.run_append_grow_zeros (P := Tryz.prog) w 23 3 ty 5 i0 (.int .u8 0) .i64 .i64 slice_u8 Tryz.underlying3 hi hz0 none 0 0 [] (run_firstCells_none w.drew i0.size 0 0 0) n h0 (by rw [hz1]; decide) (by omega) (by omega)
      (by rw [hz2]; omega) (by rw [Nat.zero_add]; exact growslice_fits h0 (by rw [hz2]; omega))
    simp only [Nat.zero_add] at h
    rw [← hG] at h
    exact h
  have hGn : n ≤ G := by rw [hG]; exact grownCap_ge w _ _ _
  have hGm : G ≤ maxLen := by rw [hG]; exact grownCap_le_maxLen w _ _ _ (by unfold maxLen; omega)
  have hfr : Fresh w [] (.returned (.slice (some ⟨w.heap.size, 0, none⟩) 0 G)) (w.alloc (.cells (Builtin.zeroCells #[.int .u8 0] n ++ Builtin.zeroCells #[.int .u8 0] (G - n)) 5)).drew := by
    refine ⟨_, _, rfl, ?_, ?_⟩
    · have h := World.ownsRow_made (base := w.heap.size) (e := 5) (size := 1) w (Builtin.zeroCells #[.int .u8 0] n ++ Builtin.zeroCells #[.int .u8 0] (G - n)) G (Nat.le_refl _) hGm (by
        rw [Array.size_append, size_zeroCells, size_zeroCells]
        simp
        omega)
      exact h
    · exact (⟨rfl, rfl, rfl, by simp, fun k hk => Below.heap_alloc _ _ _ hk⟩ : Below w.heap.size w (w.alloc _).drew)
  have hG63 : G ≤ 9223372036854775807 := hGm
  have HF := Lib.hid hfr
  have hpos : (0 : Int) < n := by omega
  clear hfr hG hGm
  go_enter Tryz.func50, Tryz.ntmps50
  go_wp2_with (at_builtin; refine Lib.wpList_append_run _ rfl _ _ _ _ rfl _ _ rfl rfl _ _ (hrz _) ?_)
  go_ret
  exact HF.out

/-- The slice value v reads as these slices of bytes. -/
def BagR (w : World) (B : Nat) (v : Value) (L : List (Value × List UInt8)) : Prop :=
  (∃ A c, v = .slice A L.length c ∧ L.length ≤ c ∧ c ≤ maxLen ∧ (L ≠ [] → ∃ b o, A = some ⟨b, o, none⟩ ∧ b < B ∧ ∀ i p, L[i]? = some p → w.cell? ⟨b, o + i, none⟩ = some p.1)) ∧ ∀ p ∈ L, Byt w B p.1 p.2
theorem BagR.form {w : World} {B : Nat} {v : Value} {L : List (Value × List UInt8)} (h : BagR w B v L) : ∃ A c, v = .slice A L.length c := by
  obtain ⟨⟨A, c, hv, _⟩, _⟩ := h
  exact ⟨A, c, hv⟩
theorem BagR.len {w : World} {B : Nat} {v : Value} {L : List (Value × List UInt8)} (h : BagR w B v L) : L.length ≤ 9223372036854775807 := by
  obtain ⟨⟨A, c, hv, h1, h2, _⟩, _⟩ := h
  unfold maxLen at h2
  omega
theorem BagR.below {w w' : World} {B : Nat} {v : Value} {L : List (Value × List UInt8)} (h : BagR w B v L) (hb : Below B w w') : BagR w' B v L := by
  obtain ⟨⟨A, c, hv, h1, h2, h3⟩, h4⟩ := h
  refine ⟨⟨A, c, hv, h1, h2, fun hne => ?_⟩, fun p hp => (h4 p hp).below hb⟩
  obtain ⟨b, o, e, hb', hc⟩ := h3 hne
  exact ⟨b, o, e, hb', fun i p hp => (hb.cell (p := ⟨b, _, none⟩) hb').trans (hc i p hp)⟩
theorem BagR.more {w : World} {B B' : Nat} {v : Value} {L : List (Value × List UInt8)} (h : BagR w B v L) (hB : B ≤ B') : BagR w B' v L := by
  obtain ⟨⟨A, c, hv, h1, h2, h3⟩, h4⟩ := h
  refine ⟨⟨A, c, hv, h1, h2, fun hne => ?_⟩, fun p hp => (h4 p hp).more hB⟩
  obtain ⟨b, o, e, hb', hc⟩ := h3 hne
  exact ⟨b, o, e, by omega, hc⟩
/-- A new block of just these slices. -/
theorem BagR.made (w : World) (t : TypeId) (l : List Value) (L : List (Value × List UInt8)) (h : l = L.map (·.1)) (hl : L.length ≤ maxLen) (hb : ∀ p ∈ L, Byt w w.heap.size p.1 p.2) :
    BagR (w.alloc (.cells l.toArray t)) (w.heap.size + 1) (.slice (some ⟨w.heap.size, 0, none⟩) L.length L.length) L := by
  refine ⟨⟨_, _, rfl, Nat.le_refl _, hl, fun _ => ⟨_, _, rfl, by omega, fun i p hp => ?_⟩⟩, fun p hp => (byt_later (hb p hp) _).more (by omega)⟩
  rw [Nat.zero_add, cell_of_row _ w.heap.size i _ _ _ (heap_alloc_new w _), h]
  simp [hp]

def total (L : List (Value × List UInt8)) : Nat := (L.map (fun p => p.2.length)).sum
def joined (L : List (Value × List UInt8)) : List UInt8 := (L.map (·.2)).flatten
theorem total_take {L : List (Value × List UInt8)} {k : Nat} (h : k < L.length) : total (L.take (k + 1)) = total (L.take k) + L[k].2.length := by
  unfold total
  rw [List.take_succ_eq_append_getElem h]
  simp only [List.map_append, List.sum_append, List.map_cons, List.map_nil, List.sum_cons, List.sum_nil, Nat.add_zero]
theorem joined_take {L : List (Value × List UInt8)} {k : Nat} (h : k < L.length) : joined (L.take (k + 1)) = joined (L.take k) ++ L[k].2 := by
  unfold joined
  rw [List.take_succ_eq_append_getElem h]
  simp only [List.map_append, List.flatten_append, List.map_cons, List.map_nil, List.flatten_cons, List.flatten_nil, List.append_nil]
theorem joined_length (L : List (Value × List UInt8)) : (joined L).length = total L := by unfold joined total; simp [List.length_flatten, Function.comp_def]
theorem total_take_le (L : List (Value × List UInt8)) (k : Nat) : total (L.take k) ≤ total L := by
  have h : L = L.take k ++ L.drop k := (List.take_append_drop k L).symm
  have : total L = total (L.take k) + total (L.drop k) := by
    conv => lhs; rw [h]
    unfold total
    rw [List.map_append, List.sum_append]
  omega

set_option maxRecDepth 100000 in
set_option maxHeartbeats 3200000 in
theorem concat_any (B : Nat) (x : Value) (L : List (Value × List UInt8)) (w : World) (hx : BagR w B x L) (hB : B ≤ w.heap.size) (hl : total L ≤ 60000) :
    Calls Tryz.prog 26 #[x] w (Fresh w (joined L)) := by
  obtain ⟨i0, hi, hz0, hz1, hz2⟩ := info_parts info_u8
  have hlen := hx.len
  have HX := Lib.hid hx
  obtain ⟨A, c, rfl⟩ := hx.form
  clear hx
  go_enter Tryz.func26, Tryz.ntmps26
  go_wp2_with fail
  go_loop [3, 11] (fun s t => ∃ k : Nat, k ≤ L.length ∧ t = .int .i64 (k : Int) ∧ s = .int .i64 (total (L.take k) : Nat)) (fun _ t => L.length - (intOf t).toNat)
  case atStart => exact ⟨0, Nat.zero_le _, rfl, rfl⟩
  case round =>
    obtain ⟨k, hk, rfl, rfl⟩ := hrel
    by_cases hlt : k < L.length
    · obtain ⟨⟨A', c', e0, _, _, h4⟩, h5⟩ := HX.out
      obtain ⟨e1, e2, e3⟩ := Value.slice.inj e0
      subst e1 e3
      clear e2
      obtain ⟨b, o, rfl, hb, hc⟩ := h4 (by rintro rfl; simp at hlt)
      have hc0 := hc k _ (List.getElem?_eq_getElem hlt)
      obtain ⟨Ad, cd, hd⟩ := (h5 _ (List.getElem_mem hlt)).form
      have hts := total_take hlt
      have htl := total_take_le L (k + 1)
      rw [hd] at hc0
      obtain ⟨m, hm⟩ : ∃ m, m = L[k].2.length := ⟨_, rfl⟩
      rw [← hm] at hc0 hts
      obtain ⟨T, hT⟩ : ∃ T, T = total (L.take k) := ⟨_, rfl⟩
      rw [← hT] at hts ⊢
      have HTS := Lib.hid hts
      have hdk : decide (k < L.length) = true := decide_eq_true hlt
      have hbig : T + m ≤ 60000 := by omega
      have hng : decide ((T : Int) + (m : Int) < 0) = false := decide_eq_false (by omega)
      clear hc h4 h5 e0 hm hT hts htl hd
      go_wp2_with fail
      go_round
      case rel => exact ⟨k + 1, by omega, by go_num, by rw [HTS.out]; go_num⟩
      case measure => simp [intOf]; omega
    · obtain rfl : k = L.length := by omega
      rw [List.take_length]
      obtain ⟨T, hT⟩ : ∃ T, T = total L := ⟨_, rfl⟩
      rw [← hT] at hl ⊢
      have HT := Lib.hid hT
      clear hT
      have HG : Hid (Calls Tryz.prog 50 #[.slice none 0 0, .int .i64 (T : Int)] w (Fresh w [])) := Lib.hid (by
        rcases Nat.eq_zero_or_pos T with h | h
        · subst h
          exact (grow_none w).mono fun e w' ⟨he, hw⟩ => by subst hw; exact ⟨none, 0, he, World.ownsRow_nil _ _ _ _, Below.refl _ _⟩
        · exact grow_some T h (by omega) w)
      go_wp2_with fail
      refine HG.out.mono ?_
      intro e w1 hfr
      obtain ⟨v1, rfl, hown1, hb1⟩ := fresh_v hfr
      have HO1 := Lib.hid hown1
      have HB1 := Lib.hid hb1
      clear hfr hown1 hb1 HG
      go_wp2_with fail
      go_loopw [6, 27] (fun s t wr => ∃ (k : Nat) (v : Value), v = s ∧ k ≤ L.length ∧ t = .int .i64 (k : Int) ∧ Hid (OwnB wr w.heap.size v (joined (L.take k))) ∧ Hid (Below w.heap.size w wr)) (fun _ t _ => L.length - (intOf t).toNat)
      case atStart => exact ⟨0, _, rfl, Nat.zero_le _, rfl, HO1, HB1⟩
      case round =>
        obtain ⟨k, v, hv, hk, rfl, hown, hbel⟩ := hrel
        subst hv
        by_cases hlt : k < L.length
        · obtain ⟨⟨A', c', e0, _, _, h4⟩, h5⟩ := HX.out.below (hbel.out.mono hB)
          obtain ⟨e1, e2, e3⟩ := Value.slice.inj e0
          subst e1 e3
          clear e2
          obtain ⟨b, o, rfl, hb, hc⟩ := h4 (by rintro rfl; simp at hlt)
          have hc0 := hc k _ (List.getElem?_eq_getElem hlt)
          have hby := h5 _ (List.getElem_mem hlt)
          have hjt := joined_take hlt
          have htk := total_take_le L (k + 1)
          rw [total_take hlt, ← HT.out] at htk
          have hjl := joined_length (L.take k)
          obtain ⟨⟨pd, ys⟩, hpe⟩ : ∃ p, p = L[k] := ⟨_, rfl⟩
          rw [← hpe] at hc0 hby hjt htk
          dsimp only at hc0 hby hjt htk
          obtain ⟨Ad, cd, rfl⟩ := hby.form
          have HBY := Lib.hid hby
          have HJT := Lib.hid hjt
          have hbnd : (joined (L.take k)).length + ys.length ≤ 60000 := by omega
          have HBN := Lib.hid hbnd
          have hdk : decide (k < L.length) = true := decide_eq_true hlt
          clear hc h4 h5 e0 hby hjt htk hjl hpe hbnd
          go_wp2_with (at_builtin; refine wpList_append_bytes rfl (.tmp 31) (.tmp 32) 23 rfl w.heap.size 5 i0 slice_u8 hi hz0 hz1 hz2 _ _ _ rfl hown.out B _ ys rfl HBY.out (by have := HBN.out; omega) hbel.out.size ?_; intro v5 w5 hown5 hg5 hat5)
          have ho5 : OwnB w5 w.heap.size v5 (joined (L.take (k + 1))) := by rw [HJT.out]; exact own_b hown5 rfl
          have hb5 : Below w.heap.size w w5 := hbel.out.grown hg5 hbel.out.size (fun j hj => (World.ownsRow.lt hown.out j hj).1)
          have HO5 := Lib.hid ho5
          have HB5 := Lib.hid hb5
          clear hown5 hg5 hat5 ho5 hb5
          go_roundw
          case rel => exact ⟨k + 1, _, rfl, by omega, by go_num, HO5, HB5⟩
          case measure => simp [intOf]; omega
        · obtain rfl : k = L.length := by omega
          have ho := hown.out
          rw [List.take_length] at ho
          have HO := Lib.hid ho
          clear ho
          go_wp2_with fail
          go_ret
          exact fresh_own HO.out hbel.out
end Go.Proofs.YtocblkacdoahfaaGreatDoor.Tx
