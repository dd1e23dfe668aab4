/-
  Texts joined: Own, TEq, BcPart. Conditions: those of each.
-/
import Derived.Test.YtgiljhdjknglpaaDoorK5
/-
  A row of bytes of the call's own: what may be read, and what a store changes. Conditions: none.
-/
namespace Go.Proofs.YtgiljhdjknglpaaDoor
open Go.RowKit

/-- The slice value v owns these bytes, in a block from base on. -/
def OwnB (w : World) (base : Nat) (v : Value) (ys : List UInt8) : Prop := w.ownsRow base 5 1 v ys.length (ys.map bv)
theorem OwnB.nil (w : World) (base : Nat) : OwnB w base (.slice none 0 0) [] := World.ownsRow_nil _ _ _ _
theorem OwnB.form {w : World} {base : Nat} {v : Value} {ys : List UInt8} (h : OwnB w base v ys) : ∃ A c, v = .slice A ys.length c := own_form h
theorem OwnB.block {w : World} {base : Nat} {v : Value} {ys : List UInt8} (h : OwnB w base v ys) (hn : 0 < ys.length) : ∃ g c, v = .slice (some ⟨g, 0, none⟩) ys.length c ∧ base ≤ g ∧ g < w.heap.size ∧ ys.length ≤ c := by
  rcases h.2 with ⟨_, h0⟩ | ⟨g, cap, cur, rfl, hb, hg, hnc, _⟩
  · omega
  · exact ⟨g, cap, rfl, hb, (Array.getElem?_eq_some_iff.1 hg).1, hnc⟩
theorem OwnB.cell {w : World} {base g n c k : Nat} {q : UInt8} {ys : List UInt8} (h : OwnB w base (.slice (some ⟨g, 0, none⟩) n c) ys) (hk : ys[k]? = some q) : w.cell? ⟨g, k, none⟩ = some (bv q) := by
  have h1 := World.ownsRow.cells (g := g) h rfl k (bv q) (by rw [List.getElem?_map, hk]; rfl)
  have hadd : (⟨g, 0, none⟩ : Addr).add k = ⟨g, 0 + k, none⟩ := by unfold Addr.add; split <;> simp_all
  rw [hadd, Nat.zero_add] at h1
  exact h1
theorem OwnB.free {w : World} {base g n c : Nat} {ys : List UInt8} (h : OwnB w base (.slice (some ⟨g, 0, none⟩) n c) ys) (k : Nat) : w.frozen? ⟨g, k, none⟩ = false := by
  rcases h.2 with ⟨e, _⟩ | ⟨g', cap, cur, e, _, hg, _⟩
  · cases e
  · injection e with e1 _ _
    injection e1 with e1
    injection e1 with e1
    subst e1
    simp [World.frozen?, hg]
theorem OwnB.set {w : World} {base g n c : Nat} {ys : List UInt8} (h : OwnB w base (.slice (some ⟨g, 0, none⟩) n c) ys) (k : Nat) (q : UInt8) : OwnB (w.setCell ⟨g, k, none⟩ (bv q)) base (.slice (some ⟨g, 0, none⟩) n c) (ys.set k q) := by
  unfold OwnB at h ⊢
  rw [List.length_set]
  refine ⟨by simp, ?_⟩
  rcases h.2 with ⟨e, _⟩ | ⟨g', cap, cur, e, hb, hg, hnc, hcm, hcs, ht⟩
  · cases e
  · have e' := e
    injection e' with e1 _ _
    injection e1 with e1
    injection e1 with e1
    subst e1
    refine .inr ⟨g, cap, cur.setIfInBounds k (bv q), e, hb, ?_, hnc, hcm, by simpa using hcs, ?_⟩
    · simp [World.setCell, Array.getElem?_modify, hg]
    · rw [Array.toList_setIfInBounds, List.map_set, ← ht]
      exact List.take_set
theorem OwnB.byt {w : World} {base : Nat} {v : Value} {ys : List UInt8} (h : OwnB w base v ys) : Byt w w.heap.size v ys := Byt.of_own h
end Go.Proofs.YtgiljhdjknglpaaDoor

/-
  The references' Equal, and the laws' short. Conditions: none.
-/
namespace Go.Proofs.YtgiljhdjknglpaaDoor
open Go.RowKit

set_option maxRecDepth 100000 in
set_option maxHeartbeats 400000 in
theorem equal_any (B B' : Nat) (x y : Value) (xs ys : List UInt8) (w : World) (hx : Byt w B x xs) (hy : Byt w B' y ys) :
    Calls Tryd.prog 8 #[x, y] w fun e w' => e = .returned (.bool (xs == ys)) ∧ w = w' := by
  have h1 := run_string_of (P := Tryd.prog) w 23 9 5 slice_u8 Tryd.underlying5 Tryd.underlying9 B x xs hx
  have h2 := run_string_of (P := Tryd.prog) w 23 9 5 slice_u8 Tryd.underlying5 Tryd.underlying9 B' y ys hy
  go_enter Tryd.func8, Tryd.ntmps8
  go_wp2
  go_ret
  exact ⟨rfl, rfl⟩

theorem equal_yes (B B' : Nat) (x y : Value) (xs ys : List UInt8) (w : World) (hx : Byt w B x xs) (hy : Byt w B' y ys) (h : xs = ys) :
    Calls Tryd.prog 8 #[x, y] w fun e w' => e = .returned (.bool true) ∧ w = w' :=
  (equal_any B B' x y xs ys w hx hy).mono fun _ _ ⟨he, hw⟩ => ⟨by rw [he, h]; simp, hw⟩

theorem Byt.take_ {w : World} {B c : Nat} {A : Option Addr} {xs : List UInt8} (h : Byt w B (.slice A xs.length c) xs) {k : Nat} (hk : k ≤ xs.length) : Byt w B (.slice A k c) (xs.take k) := by
  obtain ⟨A', c', e, h1, h2, h3, h4⟩ := h
  injection e with e1 e2 e3
  subst e1 e3
  refine ⟨A, c, by rw [List.length_take, Nat.min_eq_left hk], by rw [List.length_take]; omega, h2, fun h => ?_, fun hne => ?_⟩
  · obtain ⟨rfl, hc⟩ := h3 h
    exact ⟨by simp, hc⟩
  · obtain ⟨b, o, e1, hb, hc⟩ := h4 (by rintro rfl; simp at hne)
    refine ⟨b, o, e1, hb, fun j u hu => hc j u ?_⟩
    rw [List.getElem?_take] at hu
    split at hu
    · exact hu
    · cases hu

end Go.Proofs.YtgiljhdjknglpaaDoor

/-
  text.isPrintable, text.isPart; slices.ContainsFunc with the test of wide values. Conditions: sizes within the reach.
-/
namespace Go.Proofs.YtgiljhdjknglpaaDoor
open Go.RowKit

set_option maxRecDepth 100000 in
set_option maxHeartbeats 1600000 in
theorem printable_any (s : ByteArray) (w : World) (hs : s.size ≤ 140737488355328) :
    Calls Tryd.prog 44 #[.string s] w fun e w' => e = .returned (.bool (s.data.toList.all okB)) ∧ w = w' := by
  obtain ⟨h, hh⟩ : ∃ h, h = s.data.toList := ⟨_, rfl⟩
  have hhs : h.length = s.size := by rw [hh]; rfl
  rw [← hh]
  have HH := Lib.hid hh
  have HHS := Lib.hid hhs
  clear hh hhs
  go_enter Tryd.func44, Tryd.ntmps44
  go_wp2_with fail
  go_loopw [6] (fun j wr => ∃ i : Nat, i ≤ s.size ∧ j = .int .i64 i ∧ wr = w ∧ Hid (∀ c ∈ h.take i, okB c = true)) (fun j _ => s.size - (intOf j).toNat)
  case atStart => exact ⟨0, Nat.zero_le _, rfl, rfl, Lib.hid (by simp)⟩
  case round =>
    obtain ⟨i, hi, rfl, rfl, hall⟩ := hrel
    by_cases hlt : i < s.size
    · obtain ⟨q, hq⟩ : ∃ q, q = s[i]'hlt := ⟨_, rfl⟩
      have hqi : h[i]? = some q := by rw [HH.out, hq]; exact Lib.data_getElem? s i hlt
      have hqs : (s[i]'hlt) = q := hq.symm
      have hbad : okB q = false → h.all okB = false := fun hf => by
        rw [List.all_eq_false]
        exact ⟨q, List.mem_of_getElem? hqi, by rw [hf]; simp⟩
      have htk : h.take (i + 1) = h.take i ++ [q] := by rw [List.take_add_one, hqi]; rfl
      have HBAD := Lib.hid hbad
      have HTK := Lib.hid htk
      clear hq hqi hbad htk
      by_cases h1 : (q.toNat : Int) < 33
      · have d1 : decide ((q.toNat : Int) < 33) = true := decide_eq_true h1
        have hf := HBAD.out (by unfold okB; rw [decide_eq_false (by omega)]; rfl)
        have HF := Lib.hid hf
        clear h1 hf
        go_wp2
        go_ret
        exact ⟨by rw [HF.out]; rfl, rfl⟩
      · have d1 : decide ((q.toNat : Int) < 33) = false := decide_eq_false h1
        by_cases h2 : 126 < (q.toNat : Int)
        · have d2 : decide (126 < (q.toNat : Int)) = true := decide_eq_true h2
          have hf := HBAD.out (by unfold okB; rw [decide_eq_false (show ¬ (q.toNat : Int) ≤ 126 by omega), Bool.and_false])
          have HF := Lib.hid hf
          clear h1 h2 hf
          go_wp2
          go_ret
          exact ⟨by rw [HF.out]; rfl, rfl⟩
        · have d2 : decide (126 < (q.toNat : Int)) = false := decide_eq_false h2
          have hok : okB q = true := by unfold okB; rw [decide_eq_true (show (33 : Int) ≤ (q.toNat : Int) by omega), decide_eq_true (show (q.toNat : Int) ≤ 126 by omega)]; rfl
          have hnext : ∀ c ∈ h.take (i + 1), okB c = true := by
            rw [HTK.out]
            intro c hc
            rcases List.mem_append.1 hc with h3 | h3
            · exact hall.out c h3
            · rw [List.mem_singleton.1 h3]; exact hok
          have HN := Lib.hid hnext
          clear h1 h2 hok hnext hall
          go_wp2
          exact ⟨⟨i + 1, by omega, by go_num, trivial, HN⟩, by simp [intOf]; omega⟩
    · have hall2 : h.all okB = true := by
        rw [List.all_eq_true]
        intro c hc
        refine hall.out c ?_
        rw [List.take_of_length_le (by have := HHS.out; omega)]
        exact hc
      have HA := Lib.hid hall2
      clear hall hall2
      go_wp2
      go_ret
      exact ⟨by rw [HA.out]; rfl, rfl⟩

theorem ok_ascii {l : List UInt8} (h : l.all okB = true) : ∀ (j : Nat) (b : UInt8), l[j]? = some b → b.toNat < 128 := by
  intro j b hb
  have := List.all_eq_true.1 h b (List.mem_of_getElem? hb)
  unfold okB at this
  simp only [Bool.and_eq_true, decide_eq_true_eq] at this
  omega

theorem ret_bool {a b : Bool} (h : a = b) : Ending.returned (.bool a) = Ending.returned (.bool b) := by rw [h]
theorem toL (s : ByteArray) : s.toList = s.data.toList := ByteArray.toList_eq s
theorem toL_mk (l : List UInt8) : (⟨l.toArray⟩ : ByteArray).toList = l := by rw [toL]

set_option maxRecDepth 100000 in
set_option maxHeartbeats 1600000 in
theorem part_any (s : ByteArray) (w : World) (hs : s.size ≤ 140737488355328) :
    Calls Tryd.prog 38 #[.string s] w fun e w' => e = .returned (.bool (partOk s.data.toList)) ∧ Below w.heap.size w w' := by
  have P := Lib.hid (printable_any s w hs)
  obtain ⟨h, hh⟩ : ∃ h, h = s.data.toList := ⟨_, rfl⟩
  obtain ⟨p, hp⟩ : ∃ p, p = s.data.toList.all okB := ⟨_, rfl⟩
  rw [← hp] at P
  rw [← hh] at hp ⊢
  by_cases h0 : h = []
  · have hr : partOk h = false := by rw [h0]; rfl
    have hd : s.toList = [] := by rw [toL, ← hh, h0]
    have HR := Lib.hid hr
    clear hp h0 hr hh
    go_enter Tryd.func38, Tryd.ntmps38
    go_wp2_with fail
    go_ret
    exact ⟨by rw [HR.out]; rfl, Below.refl _ _⟩
  · have hd : ¬ s.toList = [] := by rw [toL, ← hh]; exact h0
    have hne : h.isEmpty = false := by simpa using h0
    cases p
    · have HR : Hid (partOk h = false) := Lib.hid (by unfold partOk; rw [hne, ← hp]; rfl)
      clear hp h0 hh hne
      go_enter Tryd.func38, Tryd.ntmps38
      go_wp2_with fail
      refine P.out.mono ?_
      rintro e w' ⟨rfl, rfl⟩
      go_wp2_with fail
      go_ret
      exact ⟨by rw [HR.out]; rfl, Below.refl _ _⟩
    · have HR : Hid (partOk h = (s.toList == (⟨(lowS h).toArray⟩ : ByteArray).toList)) := Lib.hid (by unfold partOk; rw [hne, ← hp, toL_mk, toL, ← hh, low_same]; rfl)
      have C := Tryd.strings_ToLower_ascii s w hs (ok_ascii (by rw [← hh]; exact hp.symm))
      have e1 : Lib.toLowerA s.data.toList = lowS h := by rw [← hh]; rfl
      rw [e1] at C
      obtain ⟨low, hlow⟩ : ∃ low : ByteArray, low = ⟨(lowS h).toArray⟩ := ⟨_, rfl⟩
      rw [← hlow] at C HR
      obtain ⟨z, hz⟩ : ∃ z, (s.toList == low.toList) = z := ⟨_, rfl⟩
      rw [hz] at HR
      have HC := Lib.hid C
      clear hp h0 hh hne C hlow e1
      go_enter Tryd.func38, Tryd.ntmps38
      go_wp2_with fail
      refine P.out.mono ?_
      rintro e w' ⟨rfl, rfl⟩
      go_wp2_with fail
      refine HC.out.mono ?_
      rintro e w' ⟨rfl, hb⟩
      go_wp2_with fail
      go_ret
      refine ⟨?_, hb⟩
      have hem : s.toList.isEmpty = false := by simpa using hd
      rw [HR.out]
      show Ending.returned (.bool (!s.toList.isEmpty && z)) = _
      rw [hem]
      rfl

theorem wide_fun (q : Int) (w : World) : Calls Tryd.prog 40 #[.int .u8 q] w fun e w' => e = .returned (.bool (decide (31 < q))) ∧ w = w' := by
  go_enter Tryd.func40, Tryd.ntmps40
  go_wp2
  go_ret
  exact ⟨rfl, rfl⟩
theorem enter_wide : ∀ args w, (callFunc 40 args).run Tryd.prog w = .ok (.enter 40 args) w := enters_of Tryd.func40 (by kernel_rfl) rfl

set_option maxRecDepth 100000 in
set_option maxHeartbeats 1600000 in
theorem index_wide (B : Nat) (x : Value) (d : List UInt8) (w : World) (hx : Byt w B x d) (hB : B ≤ w.heap.size) :
    Calls Tryd.prog 54 #[x, .func (.func 40) #[] #[]] w fun e w' => (∃ k : Int, e = .returned (.int .i64 k) ∧ decide (0 ≤ k) = d.any wideB) ∧ w = w' := by
  have hlen := hx.len
  unfold maxLen at hlen
  have HX := Lib.hid hx
  obtain ⟨A, c, rfl⟩ := hx.form
  clear hx
  have HW := Lib.hid wide_fun
  go_enter Tryd.func54, Tryd.ntmps54
  go_wp2_with fail
  go_loopw [8] (fun j wr => ∃ i : Nat, i ≤ d.length ∧ j = .int .i64 i ∧ wr = w ∧ Hid (∀ c ∈ d.take i, wideB c = false)) (fun j _ => d.length - (intOf j).toNat)
  case atStart => exact ⟨0, Nat.zero_le _, rfl, rfl, Lib.hid (by simp)⟩
  case round =>
    obtain ⟨i, hi, rfl, rfl, hall⟩ := hrel
    by_cases hlt : i < d.length
    · obtain ⟨A', c', e0, _, _, _, h4⟩ := HX.out
      obtain ⟨e1, e2, e3⟩ := Value.slice.inj e0
      subst e1 e3
      clear e2 e0
      obtain ⟨b, o, rfl, hb, hbc⟩ := h4 (by rintro rfl; simp at hlt)
      obtain ⟨q, hq⟩ : ∃ q, q = d[i] := ⟨_, rfl⟩
      have hci := hbc i _ (List.getElem?_eq_getElem hlt)
      rw [← hq] at hci
      have hbi : wr.cell? ⟨b, o + i, none⟩ = some (.int .u8 (q.toNat : Int)) := hci
      have hqi : d[i]? = some q := by rw [hq]; exact List.getElem?_eq_getElem hlt
      have htk : d.take (i + 1) = d.take i ++ [q] := by rw [List.take_add_one, hqi]; rfl
      have HTK := Lib.hid htk
      have HQI := Lib.hid hqi
      have hen := enter_wide
      clear hq hci hbc h4 hqi htk
      go_wp2_with fail
      refine (HW.out _ _).mono ?_
      rintro e w' ⟨rfl, rfl⟩
      by_cases hw : 31 < (q.toNat : Int)
      · have hd : decide (31 < (q.toNat : Int)) = true := decide_eq_true hw
        have hr : d.any wideB = true := List.any_eq_true.2 ⟨q, List.mem_of_getElem? HQI.out, hd⟩
        have HR := Lib.hid hr
        clear hr hw
        go_wp2_with fail
        go_ret
        exact ⟨⟨_, rfl, by rw [HR.out]; simp⟩, rfl⟩
      · have hd : decide (31 < (q.toNat : Int)) = false := decide_eq_false hw
        have hnext : ∀ c ∈ d.take (i + 1), wideB c = false := by
          rw [HTK.out]
          intro c hc
          rcases List.mem_append.1 hc with h3 | h3
          · exact hall.out c h3
          · rw [List.mem_singleton.1 h3]; exact hd
        have HN := Lib.hid hnext
        clear hnext hw hall
        go_wp2_with fail
        exact ⟨⟨i + 1, by omega, by go_num, trivial, HN⟩, by simp [intOf]; omega⟩
    · have hr : d.any wideB = false := by
        rw [List.any_eq_false]
        intro c hc
        rw [hall.out c (by rw [List.take_of_length_le (by omega)]; exact hc)]
        simp
      have HR := Lib.hid hr
      clear hr hall
      go_wp2_with fail
      go_ret
      exact ⟨⟨_, rfl, by rw [HR.out]; rfl⟩, rfl⟩

theorem contains_wide (B : Nat) (x : Value) (d : List UInt8) (w : World) (hx : Byt w B x d) (hB : B ≤ w.heap.size) :
    Calls Tryd.prog 39 #[x, .func (.func 40) #[] #[]] w fun e w' => e = .returned (.bool (d.any wideB)) ∧ w = w' := by
  have H := Lib.hid (index_wide B x d w hx hB)
  obtain ⟨A, c, rfl⟩ := hx.form
  clear hx
  go_enter Tryd.func39, Tryd.ntmps39
  go_wp2_with fail
  refine H.out.mono ?_
  rintro e w' ⟨⟨k, rfl, hk⟩, rfl⟩
  have HK := Lib.hid hk
  clear hk
  go_wp2_with fail
  go_ret
  exact ⟨by rw [← HK.out]; rfl, rfl⟩
end Go.Proofs.YtgiljhdjknglpaaDoor
