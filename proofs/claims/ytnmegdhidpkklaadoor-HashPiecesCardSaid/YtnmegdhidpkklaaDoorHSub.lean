/-
  The laws' short, and a part of a slice of bytes. Conditions: none.
-/
import Derived.Test.YtnmegdhidpkklaaDoorRDouble
import Derived.Test.YtnmegdhidpkklaaDoorTKept
import Derived.Test.YtnmegdhidpkklaaDoorInts
namespace Go.Proofs.YtnmegdhidpkklaaDoor
open Go.RowKit

theorem Byt.sub {w : World} {B c lo hi n : Nat} {A : Option Addr} {xs : List UInt8} (h : Byt w B (.slice A n c) xs) (h1 : lo ≤ hi) (h2 : hi ≤ xs.length) :
    Byt w B (.slice (if c = lo then A else A.map (fun x => x.add lo)) (hi - lo) (c - lo)) ((xs.drop lo).take (hi - lo)) := by
  obtain ⟨A', c', e, g1, g2, g3, g4⟩ := h
  injection e with e1 e2 e3
  subst e1 e2 e3
  have hl : ((xs.drop lo).take (hi - lo)).length = hi - lo := by rw [List.length_take, List.length_drop]; omega
  refine ⟨_, _, by rw [hl], by omega, by omega, fun hn => ?_, fun hne => ?_⟩
  · split at hn
    · obtain ⟨rfl, hc0⟩ := g3 hn
      exact ⟨by simp, by omega⟩
    · cases A with
      | none => obtain ⟨rfl, hc0⟩ := g3 rfl; exact ⟨by simp, by omega⟩
      | some a => exact absurd hn (by simp)
  · obtain ⟨b, o, rfl, hb, hcell⟩ := g4 (fun e => by rw [e] at hne; simp at hne)
    have hlt : lo < hi := by
      rcases Nat.lt_or_ge lo hi with h | h
      · exact h
      · have : hi - lo = 0 := by omega
        rw [this] at hne
        simp at hne
    have hadd : (⟨b, o, none⟩ : Addr).add lo = ⟨b, o + lo, none⟩ := by
      unfold Addr.add
      split <;> simp_all
    refine ⟨b, o + lo, by rw [if_neg (by omega)]; simp [hadd], hb, fun j u hu => ?_⟩
    rw [Nat.add_assoc]
    refine hcell _ u ?_
    rw [List.getElem?_take] at hu
    split at hu
    · rw [← hu, List.getElem?_drop]
    · exact absurd hu (by simp)
theorem run_sub (A : Option Addr) (n c lo hi : Nat) (h1 : lo ≤ hi) (h2 : hi ≤ c) (W : World) :
    (Instr.slice 22 (.slice A n c) (some (.int .i64 (lo : Int))) (some (.int .i64 (hi : Int))) none).run Tryd.prog W = .ok (.slice (if c = lo then A else A.map (fun x => x.add lo)) (hi - lo) (c - lo)) W := by
  obtain ⟨i0, hi0, hz0, hz1, hz2⟩ := info_parts info_u8
  have he : Tryd.prog.elem 22 = 5 := by kernel_rfl
  have ht : Tryd.prog.underlying 22 = some (.slice (Tryd.prog.elem 22)) := by rw [he]; exact slice_u8
  rw [run_slice_lh (ht := ht) (h0 := by omega) (h1 := by omega) (h2 := by omega), he]
  simp [sizeOf, typeInfo, hi0, hz1, sliced, go_sem]

set_option maxRecDepth 100000 in
set_option maxHeartbeats 400000 in
theorem hshort_any (B : Nat) (x : Value) (xs : List UInt8) (w : World) (hx : Byt w B x xs) :
    Calls Tryd.prog 9 #[x] w fun e w' => (∃ y, e = .returned y ∧ Byt w B y (xs.take 600)) ∧ w = w' := by
  have hl := hx.len
  obtain ⟨A, c, rfl⟩ := hx.form
  obtain ⟨hc1, hc2⟩ := hx.cap
  unfold maxLen at hl
  by_cases h : 600 < xs.length
  · have ht : Byt w B (.slice A 600 c) (xs.take 600) := by
      have h2 := hx.sub (lo := 0) (hi := 600) (by omega) (by omega)
      rw [List.drop_zero] at h2
      obtain ⟨A', c', e, g1, g2, g3, g4⟩ := hx
      injection e with e1 e2 e3
      subst e1 e3
      have hl6 : (xs.take 600).length = 600 := by rw [List.length_take]; omega
      refine ⟨A, c, by rw [hl6], by omega, g2, fun h => absurd (g3 h).2 (by omega), fun hne => ?_⟩
      obtain ⟨b, o, e1, hb, hc⟩ := g4 (fun e => by rw [e] at h; simp at h)
      refine ⟨b, o, e1, hb, fun j u hu => hc j u ?_⟩
      rw [List.getElem?_take] at hu
      split at hu
      · exact hu
      · exact absurd hu (by simp)
    have HT := Lib.hid ht
    have he : c = 0 → False := fun h0 => by omega
    have hd : decide ((600 : Int) < (xs.length : Int)) = true := decide_eq_true (by omega)
    clear hx ht
    go_enter Tryd.func9, Tryd.ntmps9
    go_wp2
    go_ret
    exact ⟨⟨_, rfl, HT.out⟩, rfl⟩
  · have ht : xs.take 600 = xs := List.take_of_length_le (by omega)
    have HT := Lib.hid ht
    have HX := Lib.hid hx
    have hd : decide ((600 : Int) < (xs.length : Int)) = false := decide_eq_false (by omega)
    clear hx ht
    go_enter Tryd.func9, Tryd.ntmps9
    go_wp2
    go_ret
    exact ⟨⟨_, rfl, by rw [HT.out]; exact HX.out⟩, rfl⟩
end Go.Proofs.YtnmegdhidpkklaaDoor
