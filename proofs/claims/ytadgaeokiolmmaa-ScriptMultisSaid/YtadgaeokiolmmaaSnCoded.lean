/-
  script.coded: are these the codes of all operations? Conditions: sizes within the reach.
-/
import Derived.Test.YtadgaeokiolmmaaSnFind
namespace Go.Proofs.Ytadgaeokiolmmaa
open Go.RowKit

set_option maxHeartbeats 400000 in
theorem coded1_any (c q : UInt8) (u : Value) (w : World) :
    Calls Try.prog 86 #[.agg #[.int .u8 (c.toNat : Int), u], .int .u8 (q.toNat : Int)] w fun e w' => e = .returned (.bool (c == q)) ∧ Below w.heap.size w w' := by
  have hb : ((c.toNat : Int) == (q.toNat : Int)) = (c == q) := by
    rw [Bool.eq_iff_iff]
    simp only [beq_iff_eq]
    exact ⟨fun h => u8_ext (by omega), fun h => by subst h; rfl⟩
  have HB := Lib.hid hb
  clear hb
  go_enter Try.func86, Try.ntmps86
  go_wp2_with fail
  go_ret
  exact ⟨by rw [← HB.out]; rfl, (Below.refl _ _).alloc (Nat.le_refl _) _⟩

theorem codes_take {L : List Piece} {cs : List UInt8} {k : Nat} (h1 : k < L.length) (h2 : k < cs.length) (he : (L.take k).map Piece.code = cs.take k) (hk : L[k].code = cs[k]) : (L.take (k + 1)).map Piece.code = cs.take (k + 1) := by
  rw [List.take_succ_eq_append_getElem h1, List.take_succ_eq_append_getElem h2, List.map_append, he]
  simp [hk]
theorem codes_ne {L : List Piece} {cs : List UInt8} {k : Nat} (h1 : k < L.length) (h2 : k < cs.length) (hk : (L[k].code == cs[k]) = false) : L.map Piece.code ≠ cs := by
  intro e
  have : (L.map Piece.code)[k]'(by simp; exact h1) = cs[k] := by simp only [e]
  rw [List.getElem_map] at this
  rw [this] at hk
  simp at hk

set_option maxRecDepth 100000 in
set_option maxHeartbeats 1600000 in
theorem equal_op (B B' : Nat) (x y : Value) (L : List Piece) (cs : List UInt8) (w : World) (hx : OpsR w B x L) (hy : Byt w B' y cs) (hB : B ≤ w.heap.size) (hB' : B' ≤ w.heap.size) :
    Calls Try.prog 85 #[x, y, .func (.func 86) #[] #[]] w fun e w' => e = .returned (.bool (decide (L.map Piece.code = cs))) ∧ Below w.heap.size w w' := by
  have hlen := hx.len
  have hlen2 := hy.len
  unfold maxLen at hlen2
  obtain ⟨A, c, rfl⟩ := hx.form
  obtain ⟨A2, c2, rfl⟩ := hy.form
  have hcap := hx.cap
  have hcap2 := hy.cap
  have HX := Lib.hid hx
  have HY := Lib.hid hy
  clear hx hy
  obtain ⟨R, hR⟩ : ∃ R, R = decide (L.map Piece.code = cs) := ⟨_, rfl⟩
  rw [← hR]
  have HR := Lib.hid hR
  clear hR
  by_cases hne : L.length = cs.length
  · have hnei : ((L.length : Int) != (cs.length : Int)) = false := by simp [hne]
    go_enter Try.func85, Try.ntmps85
    have HNE := Lib.hid hne
    clear hne
    go_wp2_with fail
    clear hnei
    go_loopw [17] (fun s wr => ∃ k : Nat, k ≤ L.length ∧ s = .int .i64 (k : Int) ∧ Hid ((L.take k).map Piece.code = cs.take k) ∧ Hid (Below w.heap.size w wr)) (fun s _ => L.length - (intOf s).toNat)
    case atStart => exact ⟨0, Nat.zero_le _, rfl, Lib.hid (by simp), Lib.hid (Below.refl _ _)⟩
    case round =>
      obtain ⟨k, hk, rfl, hno, hbel⟩ := hrel
      by_cases hlt : k < L.length
      · obtain ⟨A', c', e0, _, _, h4⟩ := HX.out
        obtain ⟨e1, e2, e3⟩ := Value.slice.inj e0
        subst e1 e3
        clear e2
        obtain ⟨b, o, rfl, hb, hc⟩ := h4 (by rintro rfl; simp at hlt)
        have hlt2 : k < cs.length := by have := HNE.out; omega
        obtain ⟨A', c', e0', _, _, _, h5⟩ := HY.out
        obtain ⟨e1, e2, e3⟩ := Value.slice.inj e0'
        subst e1 e3
        clear e2
        obtain ⟨b2, o2, rfl, hb2, hc2⟩ := h5 (by rintro rfl; simp at hlt2)
        obtain ⟨hc0, hc1, A9, c9, hd9⟩ := hc k _ (List.getElem?_eq_getElem hlt)
        have hc3 := hc2 k _ (List.getElem?_eq_getElem hlt2)
        have hs := Lib.hid (fun (h : L[k].code = cs[k]) => codes_take hlt hlt2 hno.out h)
        have hn := Lib.hid (fun (h : (L[k].code == cs[k]) = false) => codes_ne hlt hlt2 h)
        obtain ⟨⟨q, d, zs⟩, hq⟩ : ∃ q, q = L[k] := ⟨_, rfl⟩
        obtain ⟨z, hz⟩ : ∃ z, z = cs[k] := ⟨_, rfl⟩
        rw [← hq] at hc0 hc1 hs hn hd9
        rw [← hz] at hc3 hs hn
        dsimp only at hc0 hc1 hs hn hd9
        subst hd9
        have hb' : b < w.heap.size := by omega
        have hb2' : b2 < w.heap.size := by omega
        have hr0 : wr.cell? ⟨b, o + k * 2, none⟩ = some (.int .u8 (q.toNat : Int)) := (hbel.out.cell (p := ⟨b, _, none⟩) hb').trans hc0
        have hr1 : wr.cell? ⟨b, o + k * 2 + 1, none⟩ = some (.slice A9 zs.length c9) := (hbel.out.cell (p := ⟨b, _, none⟩) hb').trans hc1
        have hr3 : ∀ o3, (wr.alloc o3).cell? ⟨b2, o2 + k, none⟩ = some (.int .u8 (z.toNat : Int)) := fun o3 => ((hbel.out.alloc hbel.out.size o3).cell (p := ⟨b2, _, none⟩) hb2').trans hc3
        clear hc h4 h5 hc2 hq hz e0 e0' hc0 hc1 hc3
        have hd : decide (k < L.length) = true := by simpa using hlt
        have HT := Lib.hid (fun W => coded1_any q z (.slice A9 zs.length c9) W)
        by_cases hq0 : (q == z) = true
        · have hqz : q = z := by simpa using hq0
          rw [hq0] at HT
          clear hq0
          have hnx := Lib.hid (hs.out hqz)
          clear hqz hs hn
          go_wp2_with fail
          refine (HT.out _).mono ?_
          rintro e w1 ⟨rfl, hb1⟩
          go_wp2_with fail
          go_roundw
          case rel => exact ⟨k + 1, by omega, by go_num, hnx, Lib.hid ((hbel.out.alloc hbel.out.size _).trans (hb1.mono (by have := hbel.out.size; simp; omega)))⟩
          case measure => simp [intOf]; omega
        · have hq1 : (q == z) = false := by simpa using hq0
          rw [hq1] at HT
          have hnx := Lib.hid (hn.out hq1)
          clear hq0 hq1 hs hn
          go_wp2_with fail
          refine (HT.out _).mono ?_
          rintro e w1 ⟨rfl, hb1⟩
          go_wp2_with fail
          go_ret
          exact ⟨by rw [HR.out, decide_eq_false hnx.out]; rfl, (hbel.out.alloc hbel.out.size _).trans (hb1.mono (by have := hbel.out.size; simp; omega))⟩
      · obtain rfl : k = L.length := by omega
        go_wp2_with fail
        go_ret
        have h := hno.out
        rw [List.take_length, HNE.out, List.take_length] at h
        exact ⟨by rw [HR.out, decide_eq_true h]; rfl, hbel.out⟩
  · have hnei : ((L.length : Int) != (cs.length : Int)) = true := by simp only [bne_iff_ne, ne_eq]; omega
    have hnx : R = false := by
      rw [HR.out]
      exact decide_eq_false fun e => hne (by rw [← e, List.length_map])
    subst hnx
    clear hne HR
    go_enter Try.func85, Try.ntmps85
    go_wp2_with fail
    go_ret
    exact ⟨rfl, Below.refl _ _⟩

set_option maxHeartbeats 800000 in
theorem coded_any (B B' : Nat) (x y : Value) (L : List Piece) (cs : List UInt8) (w : World) (hx : OpsR w B x L) (hy : Byt w B' y cs) (hB : B ≤ w.heap.size) (hB' : B' ≤ w.heap.size) :
    Calls Try.prog 63 #[x, y] w fun e w' => e = .returned (.bool (decide (L.map Piece.code = cs))) ∧ Below w.heap.size w w' := by
  have H := Lib.hid (equal_op B B' x y L cs w hx hy hB hB')
  obtain ⟨A, c, rfl⟩ := hx.form
  obtain ⟨A2, c2, rfl⟩ := hy.form
  clear hx hy
  obtain ⟨R, hR⟩ : ∃ R, R = decide (L.map Piece.code = cs) := ⟨_, rfl⟩
  rw [← hR] at H ⊢
  clear hR
  go_enter Try.func63, Try.ntmps63
  go_wp2_with fail
  refine H.out.mono ?_
  rintro e w1 ⟨rfl, hb⟩
  go_wp2_with fail
  go_ret
  exact ⟨rfl, hb⟩
end Go.Proofs.Ytadgaeokiolmmaa
