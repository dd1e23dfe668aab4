/-
  Texts joined: SnProg, SnWit, SnKind, SnBag, SnPayM, SnRpayM. Conditions: those of each.
-/
import Derived.Test.YtpfobbhoahnebaaJ7
import Derived.OrdersHeld
import Derived.Deep.RegionHeld
import Derived.Test.YtpfobbhoahnebaaJ3
/-
  script.Program at a witness program. Conditions: none.
-/
namespace Go.Proofs.Ytpfobbhoahnebaa
open Go.RowKit

theorem run_from (A : Option Addr) (n c z : Nat) (hz : z ≤ n) (W : World) :
    (Instr.slice 22 (.slice A n c) (some (.int .i64 (z : Int))) none none).run Try.prog W = .ok (.slice (if c = z then A else A.map (fun x => x.add z)) (n - z) (c - z)) W := by
  obtain ⟨i0, hi, hz0, hz1, hz2⟩ := info_parts info_u8
  have he : Try.prog.elem 22 = 5 := by kernel_rfl
  have ht : Try.prog.underlying 22 = some (.slice (Try.prog.elem 22)) := by rw [he]; exact slice_u8
  rw [run_slice_l (ht := ht) (h0 := by omega) (h1 := by omega), he]
  simp [sizeOf, typeInfo, hi, hz1, sliced, go_sem]

set_option maxRecDepth 100000 in
set_option maxHeartbeats 6400000 in
theorem prog_yes (B : Nat) (x : Value) (a b : UInt8) (ys : List UInt8) (w : World) (hx : Byt w B x (a :: b :: ys)) (hB : B ≤ w.heap.size) (h : b.toNat = ys.length) (h2 : 2 ≤ ys.length) (h40 : ys.length ≤ 40) (hs : 0 ≤ smallB a) :
    Calls Try.prog 29 #[x] w fun e w' => ∃ v, e = .returned (.tuple #[.int .i64 (smallB a), v, .bool true]) ∧ OwnB w' w.heap.size v ys ∧ Below w.heap.size w w' := by
  have HX := Lib.hid hx
  obtain ⟨A, c, rfl, h1, hm, _, h4⟩ := hx
  obtain ⟨gb, o, rfl, hb, hc⟩ := h4 (by simp)
  have hcell1 : w.cell? ⟨gb, o + 1, none⟩ = some (.int .u8 (b.toNat : Int)) := hc 1 b rfl
  have hcell0 : w.cell? ⟨gb, o, none⟩ = some (.int .u8 (a.toNat : Int)) := hc 0 a rfl
  have htl : Byt w B (.slice (some ⟨gb, o + 2, none⟩) ys.length (c - 2)) ys := by
    refine ⟨_, _, rfl, by simp at h1; omega, by omega, (by intro h; cases h), fun _ => ⟨gb, o + 2, rfl, hb, fun j u hu => ?_⟩⟩
    have := hc (j + 2) u (by simpa using hu)
    rw [Nat.add_assoc, Nat.add_comm 2 j]
    exact this
  obtain ⟨n, hn⟩ : ∃ n, n = ys.length := ⟨_, rfl⟩
  have e : (a :: b :: ys).length = n + 2 := by simp [hn]
  rw [e] at h1 ⊢
  rw [← hn] at h h2 h40 htl
  unfold maxLen at hm
  have hsl : ∀ W, (Instr.slice 22 (.slice (some ⟨gb, o, none⟩) (n + 2) c) (some (.int .i64 2)) none none).run Try.prog W = .ok (.slice (some ⟨gb, o + 2, none⟩) n (c - 2)) W := fun W => by
    have := run_from (some ⟨gb, o, none⟩) (n + 2) c 2 (by omega) W
    rw [if_neg (by omega)] at this
    have hadd : (⟨gb, o, none⟩ : Addr).add 2 = ⟨gb, o + 2, none⟩ := by unfold Addr.add; split <;> simp_all
    rw [Option.map_some, hadd, Nat.add_sub_cancel] at this
    exact this
  have d1 : decide ((n : Int) + 2 < 4) = false := decide_eq_false (by omega)
  have d2 : decide ((42 : Int) < (n : Int) + 2) = false := decide_eq_false (by omega)
  have d3 : ((b.toNat : Int) != (n : Int)) = false := by simp [h]
  have d4 : decide (smallB a < 0) = false := decide_eq_false (by omega)
  have hpos : (0 : Int) < (n : Int) + 2 := by omega
  have hb256 := b.toNat_lt
  have hbw : gb < w.heap.size := by omega
  have HT := Lib.hid htl
  have HS := Lib.hid (fun W => small_any a W)
  have HN := Lib.hid hn
  have hs16 := (smallB_bd a).2
  obtain ⟨sv, hsv⟩ : ∃ sv, sv = smallB a := ⟨_, rfl⟩
  rw [← hsv] at HS d4 hs hs16 ⊢
  clear hc h4 e h hn htl hsv HX
  go_enter Try.func29, Try.ntmps29
  go_wp2_with fail
  refine (HS.out _).mono ?_
  rintro e w1 ⟨rfl, rfl⟩
  go_wp2_with fail
  refine wp_region_held_drew (S := (fun w' => w'.cell? ⟨gb, o, none⟩ = some (.int .u8 (a.toNat : Int)) ∧ Byt w' B (.slice (some ⟨gb, o + 2, none⟩) n (c - 2)) ys ∧ Below w.heap.size w w')) (by kernel_rfl) ?_ (fun hHeld => ?_)
  · exact ⟨hcell0, byt_drewN HT.out 1, (⟨rfl, rfl, rfl, Nat.le_refl _, fun _ _ => rfl⟩ : Below w.heap.size w w.drew)⟩
  refine wpAnyH_take (i := 0) (oi := { dst := some 30, op := Go.Op.move (Go.Operand.tmp 0), type := 22, pos := "form.go:103", after := #[], guard := none }) (v := ?av0) rfl (by kernel_rfl) (by kernel_rfl) (by kernel_rfl) (fun _ _ _ h => h) (Or.inl ⟨by rfl, ?ay0⟩) (by assumption) ?ar0
  case ay0 => (intro w hSw; (try dsimp only at hSw); go_simp; try (with_reducible rfl))
  case ar0 =>
  try simp only [Act.put, List.setIfInBounds_toArray, List.set_cons_zero, List.set_cons_succ]
  refine wpAnyH_take (i := 1) (oi := { dst := some 31, op := Go.Op.indexAddr 22 (Go.Operand.tmp 30) (Go.Operand.const (Go.Value.int Go.IntKind.i64 0)), type := 0, pos := "form.go:103", after := #[{ on := 0, ground := Go.Ground.data }], guard := none }) (v := ?av1) rfl (by kernel_rfl) (by kernel_rfl) (by kernel_rfl) (fun _ _ _ h => h) (Or.inl ⟨by rfl, ?ay1⟩) (by assumption) ?ar1
  case ay1 => (intro w hSw; (try dsimp only at hSw); go_simp; try (with_reducible rfl))
  case ar1 =>
  try simp only [Act.put, List.setIfInBounds_toArray, List.set_cons_zero, List.set_cons_succ]
  refine wpAnyH_take (i := 2) (oi := { dst := some 32, op := Go.Op.load 5 (Go.Operand.tmp 31), type := 5, pos := "form.go:103", after := #[{ on := 1, ground := Go.Ground.data }], guard := none }) (v := ?av2) rfl (by kernel_rfl) (by kernel_rfl) (by kernel_rfl) (fun _ _ _ h => h) (Or.inl ⟨by rfl, ?ay2⟩) (by assumption) ?ar2
  case ay2 => (intro w hSw; (try dsimp only at hSw); go_simp; try (with_reducible rfl))
  case ar2 =>
  try simp only [Act.put, List.setIfInBounds_toArray, List.set_cons_zero, List.set_cons_succ]
  refine wpAnyH_take (i := 4) (oi := { dst := some 34, op := Go.Op.move (Go.Operand.tmp 0), type := 22, pos := "form.go:103", after := #[], guard := none }) (v := ?av4) rfl (by kernel_rfl) (by kernel_rfl) (by kernel_rfl) (fun _ _ _ h => h) (Or.inl ⟨by rfl, ?ay4⟩) (by assumption) ?ar4
  case ay4 => (intro w hSw; (try dsimp only at hSw); go_simp; try (with_reducible rfl))
  case ar4 =>
  try simp only [Act.put, List.setIfInBounds_toArray, List.set_cons_zero, List.set_cons_succ]
  refine wpAnyH_take (i := 5) (oi := { dst := some 35, op := Go.Op.slice 22 (Go.Operand.tmp 34) (some (Go.Operand.const (Go.Value.int Go.IntKind.i64 2))) none none, type := 22, pos := "form.go:103", after := #[{ on := 4, ground := Go.Ground.data }], guard := none }) (v := ?av5) rfl (by kernel_rfl) (by kernel_rfl) (by kernel_rfl) (fun _ _ _ h => h) (Or.inl ⟨by rfl, ?ay5⟩) (by assumption) ?ar5
  case ay5 => (intro w hSw; (try dsimp only at hSw); go_simp; try (with_reducible rfl))
  case ar5 =>
  try simp only [Act.put, List.setIfInBounds_toArray, List.set_cons_zero, List.set_cons_succ]
  refine wpAnyH_ready (rs := [3]) (by kernel_rfl) (by simp) ?_
  refine AllReadyH.cons (o := { dst := some 33, op := Go.Op.call { callee := Go.Callee.value (Go.Operand.func 69), args := #[Go.Operand.tmp 32], argTypes := #[5] }, type := 3, pos := "form.go:103", after := #[{ on := 2, ground := Go.Ground.data }], guard := none }) rfl (fun K hK => ?_) (AllReadyH.nil)
  go_simp
  refine (HS.out _).mono ?_
  rintro e w4 ⟨rfl, rfl⟩
  go_simp
  refine hK.out _ _ ?_ (fun hHeld => ?_)
  · exact hHeld
  clear hK K
  try simp only [Act.put, List.setIfInBounds_toArray, List.set_cons_zero, List.set_cons_succ]
  refine wpAnyH_ready (rs := [6]) (by kernel_rfl) (by simp) ?_
  refine AllReadyH.cons (o := { dst := some 36, op := Go.Op.call { callee := Go.Callee.value (Go.Operand.func 66), args := #[Go.Operand.tmp 35], argTypes := #[22] }, type := 22, pos := "form.go:103", after := #[{ on := 5, ground := Go.Ground.data }, { on := 3, ground := Go.Ground.chain }], guard := none }) rfl (fun K hK => ?_) (AllReadyH.nil)
  go_simp
  refine (bclone_any B _ ys _ hHeld.2.1 (by have := HN.out; omega)).mono ?_
  intro e w6 hfr
  obtain ⟨u6, rfl, hown6, hb6⟩ := fresh_v hfr
  have HO := Lib.hid (own_base hown6 hHeld.2.2.size)
  go_simp
  refine hK.out _ _ ?_ (fun hHeld => ?_)
  · exact ⟨(hb6.cell (p := ⟨gb, o, none⟩) (by have := hHeld.2.2.size; show gb < _; omega)).trans hHeld.1, hHeld.2.1.below (hb6.mono (Nat.le_trans hB hHeld.2.2.size)), hHeld.2.2.trans (hb6.mono hHeld.2.2.size)⟩
  clear hK K
  try simp only [Act.put, List.setIfInBounds_toArray, List.set_cons_zero, List.set_cons_succ]
  refine wpAnyH_take (i := 7) (oi := { dst := some 2, op := Go.Op.assign (Go.Operand.tmp 33), type := 3, pos := "form.go:103", after := #[{ on := 3, ground := Go.Ground.data }, { on := 6, ground := Go.Ground.chain }, { on := 0, ground := Go.Ground.phase }, { on := 1, ground := Go.Ground.phase }, { on := 2, ground := Go.Ground.phase }, { on := 3, ground := Go.Ground.phase }, { on := 4, ground := Go.Ground.textOnly Go.Departure.lateStores }, { on := 5, ground := Go.Ground.textOnly Go.Departure.lateStoresUnsure }, { on := 6, ground := Go.Ground.textOnly Go.Departure.lateStoresUnsure }], guard := none }) (v := ?a_3_6v7) rfl (by kernel_rfl) (by kernel_rfl) (by kernel_rfl) (fun _ _ _ h => h) (Or.inl ⟨by rfl, ?a_3_6y7⟩) (by assumption) ?a_3_6r7
  case a_3_6y7 => (intro w hSw; (try dsimp only at hSw); go_simp; try (with_reducible rfl))
  case a_3_6r7 =>
  try simp only [Act.put, List.setIfInBounds_toArray, List.set_cons_zero, List.set_cons_succ]
  refine wpAnyH_take (i := 8) (oi := { dst := some 3, op := Go.Op.assign (Go.Operand.tmp 36), type := 22, pos := "form.go:103", after := #[{ on := 6, ground := Go.Ground.data }, { on := 7, ground := Go.Ground.chain }, { on := 0, ground := Go.Ground.phase }, { on := 1, ground := Go.Ground.phase }, { on := 2, ground := Go.Ground.phase }, { on := 3, ground := Go.Ground.phase }, { on := 4, ground := Go.Ground.phase }, { on := 5, ground := Go.Ground.phase }, { on := 6, ground := Go.Ground.phase }, { on := 7, ground := Go.Ground.phase }], guard := none }) (v := ?a_3_6v8) rfl (by kernel_rfl) (by kernel_rfl) (by kernel_rfl) (fun _ _ _ h => h) (Or.inl ⟨by rfl, ?a_3_6y8⟩) (by assumption) ?a_3_6r8
  case a_3_6y8 => (intro w hSw; (try dsimp only at hSw); go_simp; try (with_reducible rfl))
  case a_3_6r8 =>
  try simp only [Act.put, List.setIfInBounds_toArray, List.set_cons_zero, List.set_cons_succ]
  refine wpAnyH_take (i := 9) (oi := { dst := some 4, op := Go.Op.assign (Go.Operand.const (Go.Value.bool true)), type := 4, pos := "form.go:103", after := #[{ on := 8, ground := Go.Ground.chain }, { on := 0, ground := Go.Ground.phase }, { on := 1, ground := Go.Ground.phase }, { on := 2, ground := Go.Ground.phase }, { on := 3, ground := Go.Ground.phase }, { on := 4, ground := Go.Ground.phase }, { on := 5, ground := Go.Ground.phase }, { on := 6, ground := Go.Ground.phase }, { on := 7, ground := Go.Ground.phase }, { on := 8, ground := Go.Ground.phase }], guard := none }) (v := ?a_3_6v9) rfl (by kernel_rfl) (by kernel_rfl) (by kernel_rfl) (fun _ _ _ h => h) (Or.inl ⟨by rfl, ?a_3_6y9⟩) (by assumption) ?a_3_6r9
  case a_3_6y9 => (intro w hSw; (try dsimp only at hSw); go_simp; try (with_reducible rfl))
  case a_3_6r9 =>
  try simp only [Act.put, List.setIfInBounds_toArray, List.set_cons_zero, List.set_cons_succ]
  refine wpAnyH_done (by kernel_rfl) ?_ _
  have HF := Lib.hid hHeld.2.2
  go_wp2_with fail
  go_ret3
  exact ⟨_, rfl, HO.out, HF.out⟩
end Go.Proofs.Ytpfobbhoahnebaa

/-
  PayWitness, of the program and of the reference. Conditions: sizes within the reach.
-/
namespace Go.Proofs.Ytpfobbhoahnebaa
open Go.RowKit

/-- The code that pushes a number from 0 to 16. -/
def vcode (v : Int) : UInt8 := if v = 0 then 0 else UInt8.ofNat (80 + v.toNat)
def witForm (v : Int) (ps : List UInt8) : List UInt8 := [vcode v, b8 (ps.length : Int)] ++ ps
theorem push_small (v : Int) (h0 : 0 ≤ v) (h1 : v ≤ 16) : pushB (numB v) = [vcode v] := by
  by_cases hz : v = 0
  · subst hz
    rw [show numB 0 = [] from numB_neg0]
    rfl
  · obtain ⟨m, rfl⟩ := Int.eq_ofNat_of_zero_le h0
    have hm : 0 < m := by omega
    have hx : (UInt8.ofNat (m % 256)).toNat = m := by rw [u8_of]; omega
    have hn : numB (m : Int) = [UInt8.ofNat (m % 256)] := by
      rw [numB_nat, bytesN_pos hm, Nat.div_eq_of_lt (by omega), bytesN_zero]
      exact topped_lo (fr := []) (by rw [hx]; omega)
    rw [hn]
    unfold pushB
    rw [alone_one, if_neg (by intro e; have := congrArg UInt8.toNat e; rw [hx] at this; have h129 : (129 : UInt8).toNat = 129 := rfl; omega), if_pos (by omega), hx]
    unfold vcode
    rw [if_neg hz]
    rfl
theorem push_prog (ps : List UInt8) (h2 : 2 ≤ ps.length) (h40 : ps.length ≤ 40) : pushB ps = b8 (ps.length : Int) :: ps := by
  match ps, h2 with
  | a :: b :: t, _ =>
    have : aloneB (a :: b :: t) = none := rfl
    unfold pushB headB
    rw [this, if_pos (by omega)]
    rfl
theorem small_vcode (v : Int) (h0 : 0 ≤ v) (h1 : v ≤ 16) : smallB (vcode v) = v := by
  unfold vcode
  by_cases hz : v = 0
  · subst hz; rfl
  · rw [if_neg hz]
    have hx : (UInt8.ofNat (80 + v.toNat)).toNat = 80 + v.toNat := by rw [UInt8.toNat_ofNat', Nat.mod_eq_of_lt (by omega)]
    unfold smallB
    rw [if_neg (by intro e; have := congrArg UInt8.toNat e; rw [hx] at this; have h00 : (0 : UInt8).toNat = 0 := rfl; omega), if_pos (by omega), hx]
    omega

set_option maxHeartbeats 800000 in
theorem pushNumber_any (v : Int) (w : World) (h0 : -9223372036854775808 ≤ v) (h1 : v ≤ 9223372036854775807) : Calls Try.prog 71 #[.int .i64 v] w (Fresh w (pushB (numB v))) := by
  have h8 := numB_eight v h0 h1
  obtain ⟨N, hN⟩ : ∃ N, N = numB v := ⟨_, rfl⟩
  have HN := Lib.hid (fun W => number_any v W h0 h1)
  rw [← hN] at HN h8 ⊢
  clear hN
  go_enter Try.func71, Try.ntmps71
  go_wp2_with fail
  refine (HN.out _).mono ?_
  intro e w1 hfr
  obtain ⟨u1, rfl, hown1, hb1⟩ := fresh_v hfr
  have HY := Lib.hid (Byt.of_own hown1)
  have HB1 := Lib.hid hb1
  clear hfr hown1 hb1
  go_wp2_with fail
  refine (push_any _ _ N w1 HY.out (Nat.le_refl _) (by omega)).mono ?_
  intro e w2 hfr
  obtain ⟨u2, rfl, hown2, hb2⟩ := fresh_v hfr
  have HO2 := Lib.hid (own_base hown2 HB1.out.size)
  have HB2 := Lib.hid (HB1.out.trans (hb2.mono HB1.out.size))
  clear hfr hown2 hb2
  go_wp2_with fail
  go_ret
  exact fresh_own HO2.out HB2.out

/-- What PayWitness answers. -/
def PayV (w : World) (v : Int) (ps : List UInt8) (e : Ending) (w' : World) : Prop :=
  if v < 0 ∨ 16 < v then e = .returned (.tuple #[.slice none 0 0, .int .i64 1]) ∧ Below w.heap.size w w'
  else if ps.length < 2 ∨ 40 < ps.length then e = .returned (.tuple #[.slice none 0 0, .int .i64 2]) ∧ Below w.heap.size w w'
  else ∃ u, e = .returned (.tuple #[u, .int .i64 0]) ∧ OwnB w' w.heap.size u (witForm v ps) ∧ Below w.heap.size w w'

theorem payV_big {w : World} {v : Int} {ps : List UInt8} {e : Ending} {w' : World} (hv : v < 0 ∨ 16 < v) (h : e = .returned (.tuple #[.slice none 0 0, .int .i64 1]) ∧ Below w.heap.size w w') : PayV w v ps e w' := by
  unfold PayV
  rw [if_pos hv]
  exact h
theorem payV_long {w : World} {v : Int} {ps : List UInt8} {e : Ending} {w' : World} (hv : ¬(v < 0 ∨ 16 < v)) (hp : ps.length < 2 ∨ 40 < ps.length) (h : e = .returned (.tuple #[.slice none 0 0, .int .i64 2]) ∧ Below w.heap.size w w') : PayV w v ps e w' := by
  unfold PayV
  rw [if_neg hv, if_pos hp]
  exact h
theorem payV_ok {w : World} {v : Int} {ps : List UInt8} {e : Ending} {w' : World} (hv : ¬(v < 0 ∨ 16 < v)) (hp : ¬(ps.length < 2 ∨ 40 < ps.length)) (h : ∃ u, e = .returned (.tuple #[u, .int .i64 0]) ∧ OwnB w' w.heap.size u (witForm v ps) ∧ Below w.heap.size w w') : PayV w v ps e w' := by
  unfold PayV
  rw [if_neg hv, if_neg hp]
  exact h

set_option maxRecDepth 100000 in
set_option maxHeartbeats 3200000 in
theorem payWitness_any (v : Int) (B : Nat) (x : Value) (ps : List UInt8) (w : World) (h0 : -9223372036854775808 ≤ v) (h1 : v ≤ 9223372036854775807) (hx : Byt w B x ps) (hB : B ≤ w.heap.size) (hl : ps.length ≤ 47000000) :
    Calls Try.prog 36 #[.int .i64 v, x] w (PayV w v ps) := by
  have HX := Lib.hid hx
  obtain ⟨A, c, rfl⟩ := hx.form
  clear hx
  by_cases hv : v < 0 ∨ 16 < v
  · refine Calls.mono (R := fun e w' => e = .returned (.tuple #[.slice none 0 0, .int .i64 1]) ∧ Below w.heap.size w w') ?_ (fun e w' h => payV_big hv h)
    by_cases hn : v < 0
    · clear hv
      go_enter Try.func36, Try.ntmps36
      go_wp2_with fail
      go_ret2
      exact ⟨rfl, Below.refl _ _⟩
    · have d1 : decide (v < 0) = false := decide_eq_false hn
      have hh : (16 : Int) < v := by omega
      clear hv
      go_enter Try.func36, Try.ntmps36
      go_wp2_with fail
      go_ret2
      exact ⟨rfl, Below.refl _ _⟩
  · have d1 : decide (v < 0) = false := decide_eq_false (by omega)
    have d2 : decide ((16 : Int) < v) = false := decide_eq_false (by omega)
    by_cases hp : ps.length < 2 ∨ 40 < ps.length
    · refine Calls.mono (R := fun e w' => e = .returned (.tuple #[.slice none 0 0, .int .i64 2]) ∧ Below w.heap.size w w') ?_ (fun e w' h => payV_long hv hp h)
      by_cases hn : ps.length < 2
      · have d3 : decide ((ps.length : Int) < 2) = true := decide_eq_true (by omega)
        clear hv hp
        go_enter Try.func36, Try.ntmps36
        go_wp2_with fail
        go_ret2
        exact ⟨rfl, Below.refl _ _⟩
      · have d3 : decide ((ps.length : Int) < 2) = false := decide_eq_false (by omega)
        have d4 : decide ((40 : Int) < (ps.length : Int)) = true := decide_eq_true (by omega)
        clear hv hp
        go_enter Try.func36, Try.ntmps36
        go_wp2_with fail
        go_ret2
        exact ⟨rfl, Below.refl _ _⟩
    · refine Calls.mono (R := fun e w' => ∃ u, e = .returned (.tuple #[u, .int .i64 0]) ∧ OwnB w' w.heap.size u (witForm v ps) ∧ Below w.heap.size w w') ?_ (fun e w' h => payV_ok hv hp h)
      have d3 : decide ((ps.length : Int) < 2) = false := decide_eq_false (by omega)
      have d4 : decide ((40 : Int) < (ps.length : Int)) = false := decide_eq_false (by omega)
      have hpn := push_small v (by omega) (by omega)
      have hpp := push_prog ps (by omega) (by omega)
      have HN := Lib.hid (fun W => pushNumber_any v W h0 h1)
      rw [hpn] at HN
      have HPP := Lib.hid hpp
      have hl40 : ps.length ≤ 40 := by omega
      clear hv hp hpn hpp
      go_enter Try.func36, Try.ntmps36
      go_wp2_with fail
      refine (HN.out _).mono ?_
      intro e w1 hfr
      obtain ⟨u1, rfl, hown1, hb1⟩ := fresh_v hfr
      obtain ⟨A1, c1, rfl⟩ := hown1.form
      have HY1 := Lib.hid (Byt.of_own hown1)
      have HB1 := Lib.hid hb1
      have HX1 := Lib.hid (HX.out.below (hb1.mono hB))
      clear hfr hown1 hb1
      go_wp2_with fail
      refine (push_any B _ ps w1 HX1.out (Nat.le_trans hB HB1.out.size) hl).mono ?_
      rw [HPP.out]
      intro e w2 hfr
      obtain ⟨u2, rfl, hown2, hb2⟩ := fresh_v hfr
      obtain ⟨A2, c2, rfl⟩ := hown2.form
      have y1 := (HY1.out.below hb2).more hb2.size
      have y2 := Byt.of_own hown2
      have bag := BagR.made w2 22 [.slice A1 [vcode v].length c1, .slice A2 (b8 (ps.length : Int) :: ps).length c2] [(.slice A1 [vcode v].length c1, [vcode v]), (.slice A2 (b8 (ps.length : Int) :: ps).length c2, b8 (ps.length : Int) :: ps)] rfl (by unfold maxLen; simp)
        (by intro p hp; simp only [List.mem_cons, List.not_mem_nil, or_false] at hp; rcases hp with rfl | rfl; exact y1; exact y2)
      have BAG := Lib.hid bag
      have HB2 := Lib.hid (HB1.out.trans (hb2.mono HB1.out.size))
      have hl1 : [vcode v].length = 1 := rfl
      have hl2 : (b8 (ps.length : Int) :: ps).length = ps.length + 1 := rfl
      rw [hl1, hl2] at BAG
      rw [hl2]
      clear y1 y2 bag hl1 hl2 hfr hown2 hb2
      go_wp2_with fail
      refine (concat_any _ _ _ _ BAG.out (by simp) (by unfold total; simp; omega)).mono ?_
      intro e w3 hfr
      obtain ⟨u3, rfl, hown3, hb3⟩ := fresh_v hfr
      have e3 : joined [((.slice A1 1 c1 : Value), [vcode v]), (.slice A2 (ps.length + 1) c2, b8 (ps.length : Int) :: ps)] = witForm v ps := by
        unfold joined witForm
        simp
      rw [e3] at hown3
      have HO3 := Lib.hid (own_base hown3 (by have := HB2.out.size; simp; omega : w.heap.size ≤ _))
      have HB3 := Lib.hid ((HB2.out.alloc HB2.out.size (.cells #[.slice A1 1 c1, .slice A2 (ps.length + 1) c2] 22)).trans (hb3.mono (by have := HB2.out.size; simp; omega)))
      clear hfr hown3 hb3 e3
      go_wp2_with fail
      go_ret2
      exact ⟨_, rfl, HO3.out, HB3.out⟩

set_option maxRecDepth 100000 in
set_option maxHeartbeats 3200000 in
theorem rpayWitness_any (v : Int) (B : Nat) (x : Value) (ps : List UInt8) (w : World) (hx : Byt w B x ps) (hl : ps.length ≤ 47000000) :
    Calls Try.prog 38 #[.int .i64 v, x] w (PayV w v ps) := by
  obtain ⟨i0, hi, hz0, hz1, hz2⟩ := info_parts info_u8
  have HX := Lib.hid hx
  obtain ⟨A, c, rfl⟩ := hx.form
  clear hx
  by_cases hv : v < 0 ∨ 16 < v
  · refine Calls.mono (R := fun e w' => e = .returned (.tuple #[.slice none 0 0, .int .i64 1]) ∧ Below w.heap.size w w') ?_ (fun e w' h => payV_big hv h)
    by_cases hn : v < 0
    · clear hv
      go_enter Try.func38, Try.ntmps38
      go_wp2_with fail
      go_ret2
      exact ⟨rfl, Below.refl _ _⟩
    · have d1 : decide (v < 0) = false := decide_eq_false hn
      have hh : (16 : Int) < v := by omega
      clear hv
      go_enter Try.func38, Try.ntmps38
      go_wp2_with fail
      go_ret2
      exact ⟨rfl, Below.refl _ _⟩
  · have d1 : decide (v < 0) = false := decide_eq_false (by omega)
    have d2 : decide ((16 : Int) < v) = false := decide_eq_false (by omega)
    by_cases hp : ps.length < 2 ∨ 40 < ps.length
    · refine Calls.mono (R := fun e w' => e = .returned (.tuple #[.slice none 0 0, .int .i64 2]) ∧ Below w.heap.size w w') ?_ (fun e w' h => payV_long hv hp h)
      by_cases hn : ps.length < 2
      · have d3 : decide ((ps.length : Int) < 2) = true := decide_eq_true (by omega)
        clear hv hp
        go_enter Try.func38, Try.ntmps38
        go_wp2_with fail
        go_ret2
        exact ⟨rfl, Below.refl _ _⟩
      · have d3 : decide ((ps.length : Int) < 2) = false := decide_eq_false (by omega)
        have d4 : decide ((40 : Int) < (ps.length : Int)) = true := decide_eq_true (by omega)
        clear hv hp
        go_enter Try.func38, Try.ntmps38
        go_wp2_with fail
        go_ret2
        exact ⟨rfl, Below.refl _ _⟩
    · refine Calls.mono (R := fun e w' => ∃ u, e = .returned (.tuple #[u, .int .i64 0]) ∧ OwnB w' w.heap.size u (witForm v ps) ∧ Below w.heap.size w w') ?_ (fun e w' h => payV_ok hv hp h)
      have d3 : decide ((ps.length : Int) < 2) = false := decide_eq_false (by omega)
      have d4 : decide ((40 : Int) < (ps.length : Int)) = false := decide_eq_false (by omega)
      have hv0 : 0 ≤ v := by omega
      have hv1 : v ≤ 16 := by omega
      have hl40 : ps.length ≤ 40 := by omega
      have hb1 : bv (b8 (ps.length : Int)) = .int .u8 (ps.length : Int) := bv_b8_of (by omega) (by omega)
      by_cases hz : v = 0
      · have d5 : decide ((0 : Int) < v) = false := decide_eq_false (by omega)
        have HO := Lib.hid (own_made w 5 [.int .u8 0, .int .u8 (ps.length : Int)] [vcode v, b8 (ps.length : Int)] (by rw [List.map_cons, List.map_cons, hb1, hz]; rfl) (by unfold maxLen; simp))
        have HXX := Lib.hid (byt_later HX.out (.cells #[.int .u8 0, .int .u8 (ps.length : Int)] 5))
        have HBB := Lib.hid ((Below.refl _ w).alloc (Nat.le_refl _) (.cells #[.int .u8 0, .int .u8 (ps.length : Int)] 5))
        clear hv hp hb1 hz hv0 hv1
        go_enter Try.func38, Try.ntmps38
        go_wp2_with (at_builtin; refine wpList_append_bytes rfl (.tmp 30) (.tmp 31) 22 rfl w.heap.size 5 i0 slice_u8 hi hz0 hz1 hz2 _ _ _ rfl HO.out B _ ps rfl HXX.out (by simp; omega) HBB.out.size ?_; intro v5 w5 hown5 hg5 hat5)
        go_ret2
        exact ⟨_, rfl, own_b hown5 rfl, HBB.out.grown hg5 HBB.out.size (fun j hj => (World.ownsRow.lt HO.out j hj).1)⟩
      · have d5 : decide ((0 : Int) < v) = true := decide_eq_true (by omega)
        have d5' : (0 : Int) < v := by omega
        have hvc : bv (vcode v) = .int .u8 (80 + v) := by
          unfold vcode bv
          rw [if_neg hz, UInt8.toNat_ofNat', Nat.mod_eq_of_lt (by omega)]
          congr 1
          omega
        have HO := Lib.hid (own_made w 5 [.int .u8 (80 + v), .int .u8 (ps.length : Int)] [vcode v, b8 (ps.length : Int)] (by rw [List.map_cons, List.map_cons, hb1, hvc]; rfl) (by unfold maxLen; simp))
        have HXX := Lib.hid (byt_later HX.out (.cells #[.int .u8 (80 + v), .int .u8 (ps.length : Int)] 5))
        have HBB := Lib.hid ((Below.refl _ w).alloc (Nat.le_refl _) (.cells #[.int .u8 (80 + v), .int .u8 (ps.length : Int)] 5))
        clear hv hp hb1 hz hvc
        go_enter Try.func38, Try.ntmps38
        go_wp2_with (at_builtin; refine wpList_append_bytes rfl (.tmp 30) (.tmp 31) 22 rfl w.heap.size 5 i0 slice_u8 hi hz0 hz1 hz2 _ _ _ rfl HO.out B _ ps rfl HXX.out (by simp; omega) HBB.out.size ?_; intro v5 w5 hown5 hg5 hat5)
        go_ret2
        exact ⟨_, rfl, own_b hown5 rfl, HBB.out.grown hg5 HBB.out.size (fun j hj => (World.ownsRow.lt HO.out j hj).1)⟩
end Go.Proofs.Ytpfobbhoahnebaa

/-
  script.Kind at the two forms of a digest of twenty bytes. Conditions: sizes within the reach.
-/
namespace Go.Proofs.Ytpfobbhoahnebaa
open Go.RowKit

theorem parse_code {c : UInt8} (h : 79 ≤ c.toNat) (xs : List UInt8) : parseP (c :: xs) = (parseP xs).map ((c, []) :: ·) := by
  rw [parseP_ok (by rw [opR_none (.inr h)]), opR_none (.inr h)]
theorem parse_digest {hs : List UInt8} (h : hs.length = 20) (xs : List UInt8) : parseP (20 :: (hs ++ xs)) = (parseP xs).map ((20, hs) :: ·) := by
  have q : opR 20 (hs ++ xs) = (hs, 0, xs) := by
    unfold opR sizeD
    rw [if_pos (by decide)]
    dsimp only
    have := rawR_app hs xs
    rw [h] at this
    exact this
  rw [parseP_ok (by rw [q]), q]
theorem parse_key {hs : List UInt8} (h : hs.length = 20) : parseP (keyForm hs) = some [(118, []), (169, []), (20, hs), (136, []), (172, [])] := by
  have e : keyForm hs = 118 :: 169 :: 20 :: (hs ++ [136, 172]) := rfl
  rw [e, parse_code (by decide), parse_code (by decide), parse_digest h, parse_code (by decide), parse_code (by decide), parseP_nil]
  rfl
theorem parse_script {hs : List UInt8} (h : hs.length = 20) : parseP (scriptForm hs) = some [(169, []), (20, hs), (135, [])] := by
  have e : scriptForm hs = 169 :: 20 :: (hs ++ [135]) := rfl
  rw [e, parse_code (by decide), parse_digest h, parse_code (by decide), parseP_nil]
  rfl

theorem ops_cell {w : World} {B n c : Nat} {A : Option Addr} {L : List Piece} (h : OpsR w B (.slice A n c) L) (hne : L ≠ []) : ∃ b o, A = some ⟨b, o, none⟩ ∧ b < B ∧ L.length = n ∧ L.length ≤ c ∧ c ≤ 9223372036854775807 ∧ ∀ i p, L[i]? = some p → w.cell? ⟨b, o + i * 2 + 1, none⟩ = some p.at_ := by
  obtain ⟨A', c', e, h1, h2, h3⟩ := h
  obtain ⟨e1, e2, e3⟩ := Value.slice.inj e
  subst e1 e3
  obtain ⟨b, o, e', hb, hc⟩ := h3 hne
  exact ⟨b, o, e', hb, e2.symm, h1, h2, fun i p hp => (hc i p hp).2.1⟩

/-- Parse of five operations, of three. -/
theorem parse_list (B : Nat) (x : Value) (zs : List UInt8) (ops : List (UInt8 × List UInt8)) (h : parseP zs = some ops) (w : World) (hx : Byt w B x zs) (hl : zs.length ≤ 60000000) :
    Calls Try.prog 12 #[x] w fun e w' => ∃ A c L, e = .returned (.tuple #[.slice A ops.length c, .int .i64 0]) ∧ L.map Piece.pair = ops ∧ OpsAt w' w.heap.size (.slice A ops.length c) L ∧ Below w.heap.size w w' := by
  refine (parse_any B x zs w hx hl).mono fun e w' hp => ?_
  unfold Parsed at hp
  rw [h] at hp
  exact hp
theorem codes_of {L : List Piece} {ops : List (UInt8 × List UInt8)} (h : L.map Piece.pair = ops) : L.map Piece.code = ops.map (·.1) := by
  rw [← h, List.map_map]
  rfl
theorem piece_at {L : List Piece} {ops : List (UInt8 × List UInt8)} (h : L.map Piece.pair = ops) {i : Nat} {c : UInt8} {ds : List UInt8} (hi : ops[i]? = some (c, ds)) : ∃ p, L[i]? = some p ∧ p.data = ds := by
  rw [← h, List.getElem?_map] at hi
  cases hp : L[i]? with
  | none => rw [hp] at hi; cases hi
  | some p =>
    rw [hp] at hi
    refine ⟨p, rfl, ?_⟩
    have : Piece.pair p = (c, ds) := Option.some.inj hi
    unfold Piece.pair at this
    exact (Prod.mk.inj this).2

/-- A kind, and one slice of bytes. -/
def KindV (w : World) (k : Int) (hs : List UInt8) (e : Ending) (w' : World) : Prop :=
  ∃ v u, e = .returned (.tuple #[.int .i64 k, v]) ∧ BagR w' w'.heap.size v [(u, hs)] ∧ Below w.heap.size w w'

set_option maxRecDepth 100000 in
set_option maxHeartbeats 6400000 in
theorem kind_key (B : Nat) (x : Value) (hs : List UInt8) (h : hs.length = 20) (w : World) (hx : Byt w B x (keyForm hs)) :
    Calls Try.prog 26 #[x] w (KindV w 1 hs) := by
  have hlen : (keyForm hs).length = 25 := by unfold keyForm; simp [h]
  have hx' := hx
  rw [show keyForm hs = 118 :: 169 :: 20 :: (hs ++ [136, 172]) from rfl] at hx'
  have HN := Lib.hid (prog_no B x 118 169 (20 :: (hs ++ [136, 172])) w hx' (by simp [h]) (by simp) (by simp [h]))
  have HP := Lib.hid (parse_list B x (keyForm hs) _ (parse_key h) w hx (by omega))
  obtain ⟨A, c, rfl⟩ := hx.form
  rw [hlen] at HN HP ⊢
  have HH := Lib.hid h
  clear hx hx' hlen h
  go_enter Try.func26, Try.ntmps26
  go_wp2_with fail
  refine HN.out.mono ?_
  rintro e w1 ⟨rfl, rfl⟩
  go_wp2_with fail
  refine HP.out.mono ?_
  rintro e w1 ⟨Av, cv, L, rfl, hL, hops, hb1⟩
  have hro := OpsR.of_at hops
  obtain ⟨p2, hp2, hd2⟩ := piece_at hL (i := 2) rfl
  have ho2 := hops.2.1 p2 (List.mem_of_getElem? hp2)
  rw [hd2] at ho2
  have hcod := codes_of hL
  obtain ⟨gb, go_, rfl, hgb, _, hcv1, hcv2, hcl⟩ := ops_cell hro (by rintro rfl; cases hp2)
  have hc2 := hcl 2 p2 hp2
  obtain ⟨pa, hpa⟩ : ∃ pa, pa = p2.at_ := ⟨_, rfl⟩
  rw [← hpa] at hc2 ho2
  obtain ⟨Ap, cp, rfl⟩ := own_form ho2
  have hm := Byt.made w1 5 [.int .u8 118, .int .u8 169, .int .u8 20, .int .u8 136, .int .u8 172] [118, 169, 20, 136, 172] rfl (by unfold maxLen; simp)
  have hbm : Below w1.heap.size w1 (w1.alloc (.cells #[.int .u8 118, .int .u8 169, .int .u8 20, .int .u8 136, .int .u8 172] 5)) := (Below.refl _ w1).alloc (Nat.le_refl _) _
  have hco := coded_any w1.heap.size (w1.heap.size + 1) _ _ L [118, 169, 20, 136, 172] _ (hro.below hbm) hm (by simp) (by simp)
  rw [hcod, show List.map (fun x : UInt8 × List UInt8 => x.1) [(118, []), (169, []), (20, hs), (136, []), (172, [])] = [118, 169, 20, 136, 172] from rfl, decide_eq_true rfl] at hco
  have HC := Lib.hid hco
  have HO := Lib.hid (Byt.of_own ho2)
  have HB1 := Lib.hid hb1
  have HB2 := Lib.hid hbm
  have HC2 := Lib.hid hc2
  have HGB := Lib.hid hgb
  have hlp : ([(118, []), (169, []), (20, hs), (136, []), (172, [])] : List (UInt8 × List UInt8)).length = 5 := rfl
  rw [hlp] at HC ⊢
  clear hlp hco hcod hm hbm hro hops ho2 hL hp2 hd2 hpa hcl hb1 hgb hc2 HN HP
  go_wp2_with fail
  refine HC.out.mono ?_
  rintro e w2 ⟨rfl, hb2⟩
  have hcell : w2.cell? ⟨gb, go_ + 4 + 1, none⟩ = some (.slice Ap hs.length cp) := (hb2.cell (p := ⟨gb, _, none⟩) (by have := HGB.out; show gb < _; simp; omega)).trans ((HB2.out.cell (p := ⟨gb, _, none⟩) HGB.out).trans HC2.out)
  have hcell5 : w2.cell? ⟨gb, go_ + 5, none⟩ = some (.slice Ap hs.length cp) := hcell
  have HO2 := Lib.hid (((HO.out.below HB2.out).below (hb2.mono (by simp))).more (by have := hb2.size; simp at this; omega : _ ≤ w2.heap.size))
  have HB3 := Lib.hid ((HB1.out.trans (HB2.out.mono HB1.out.size)).trans (hb2.mono (by have := HB1.out.size; simp; omega)))
  clear hb2 HC HC2
  go_wp2_with fail
  go_region
  go_wp2_with fail
  go_ret2
  have bag := BagR.made w2 22 [.slice Ap hs.length cp] [(.slice Ap hs.length cp, hs)] rfl (by unfold maxLen; simp) (by intro p hp; simp only [List.mem_cons, List.not_mem_nil, or_false] at hp; subst hp; exact HO2.out)
  have dr : ∀ B (W : World), Below B W W.drew := fun _ _ => ⟨rfl, rfl, rfl, Nat.le_refl _, fun _ _ => rfl⟩
  exact ⟨_, _, rfl, (bag.below (dr _ _)).more (by simp), (HB3.out.alloc HB3.out.size (.cells #[.slice Ap hs.length cp] 22)).trans (dr _ _)⟩
theorem byt_below {B : Nat} (w : World) (o : Obj) (h : B ≤ w.heap.size) : Below B w (w.alloc o) := (Below.refl _ w).alloc h o

set_option maxRecDepth 100000 in
set_option maxHeartbeats 6400000 in
theorem kind_script (B : Nat) (x : Value) (hs : List UInt8) (h : hs.length = 20) (w : World) (hx : Byt w B x (scriptForm hs)) :
    Calls Try.prog 26 #[x] w (KindV w 2 hs) := by
  have hlen : (scriptForm hs).length = 23 := by unfold scriptForm; simp [h]
  have hx' := hx
  rw [show scriptForm hs = 169 :: 20 :: (hs ++ [135]) from rfl] at hx'
  have HN := Lib.hid (prog_no B x 169 20 (hs ++ [135]) w hx' (by simp [h]) (by simp [h]) (by simp [h]))
  have HP := Lib.hid (parse_list B x (scriptForm hs) _ (parse_script h) w hx (by omega))
  obtain ⟨A, c, rfl⟩ := hx.form
  rw [hlen] at HN HP ⊢
  have HH := Lib.hid h
  clear hx hx' hlen h
  go_enter Try.func26, Try.ntmps26
  go_wp2_with fail
  refine HN.out.mono ?_
  rintro e w1 ⟨rfl, rfl⟩
  go_wp2_with fail
  refine HP.out.mono ?_
  rintro e w1 ⟨Av, cv, L, rfl, hL, hops, hb1⟩
  have hro := OpsR.of_at hops
  obtain ⟨p2, hp2, hd2⟩ := piece_at hL (i := 1) rfl
  have ho2 := hops.2.1 p2 (List.mem_of_getElem? hp2)
  rw [hd2] at ho2
  have hcod := codes_of hL
  obtain ⟨gb, go_, rfl, hgb, _, hcv1, hcv2, hcl⟩ := ops_cell hro (by rintro rfl; cases hp2)
  have hc2 := hcl 1 p2 hp2
  obtain ⟨pa, hpa⟩ : ∃ pa, pa = p2.at_ := ⟨_, rfl⟩
  rw [← hpa] at hc2 ho2
  obtain ⟨Ap, cp, rfl⟩ := own_form ho2
  have hm := Byt.made w1 5 [.int .u8 118, .int .u8 169, .int .u8 20, .int .u8 136, .int .u8 172] [118, 169, 20, 136, 172] rfl (by unfold maxLen; simp)
  have hbm : Below w1.heap.size w1 (w1.alloc (.cells #[.int .u8 118, .int .u8 169, .int .u8 20, .int .u8 136, .int .u8 172] 5)) := (Below.refl _ w1).alloc (Nat.le_refl _) _
  have hck := coded_any w1.heap.size (w1.heap.size + 1) _ _ L [118, 169, 20, 136, 172] _ (hro.below hbm) hm (by simp) (by simp)
  rw [hcod, show List.map (fun x : UInt8 × List UInt8 => x.1) [(169, []), (20, hs), (135, [])] = [169, 20, 135] from rfl, decide_eq_false (by decide)] at hck
  have HK := Lib.hid hck
  have hco := fun (w9 : World) (h9 : Below w1.heap.size w1 w9) => coded_any w1.heap.size (w9.heap.size + 1) _ _ L [169, 20, 135] _ ((hro.below h9).below (byt_below w9 (.cells #[.int .u8 169, .int .u8 20, .int .u8 135] 5) h9.size)) (Byt.made w9 5 [.int .u8 169, .int .u8 20, .int .u8 135] [169, 20, 135] rfl (by unfold maxLen; simp)) (by have := h9.size; simp; omega) (by simp)
  rw [hcod, show List.map (fun x : UInt8 × List UInt8 => x.1) [(169, []), (20, hs), (135, [])] = [169, 20, 135] from rfl, decide_eq_true rfl] at hco
  have HC := Lib.hid hco
  have HO := Lib.hid (Byt.of_own ho2)
  have HB1 := Lib.hid hb1
  have HB2 := Lib.hid hbm
  have HC2 := Lib.hid hc2
  have HGB := Lib.hid hgb
  have hlp : ([(169, []), (20, hs), (135, [])] : List (UInt8 × List UInt8)).length = 3 := rfl
  rw [hlp] at HC HK ⊢
  clear hlp hco hck hcod hm hbm hro hops ho2 hL hp2 hd2 hpa hcl hb1 hgb hc2 HN HP
  go_wp2_with fail
  refine HK.out.mono ?_
  rintro e w9 ⟨rfl, hb9⟩
  have HB9 := Lib.hid (HB2.out.trans (hb9.mono (by simp)))
  clear hb9
  go_wp2_with fail
  refine (HC.out w9 HB9.out).mono ?_
  rintro e w2 ⟨rfl, hb2⟩
  have hb92 : Below w1.heap.size w1 w2 := (HB9.out.alloc HB9.out.size (.cells #[.int .u8 169, .int .u8 20, .int .u8 135] 5)).trans (hb2.mono (by have := HB9.out.size; simp; omega))
  have hcell : w2.cell? ⟨gb, go_ + 2 + 1, none⟩ = some (.slice Ap hs.length cp) := (hb92.cell (p := ⟨gb, _, none⟩) HGB.out).trans HC2.out
  have hcell5 : w2.cell? ⟨gb, go_ + 3, none⟩ = some (.slice Ap hs.length cp) := hcell
  have HO2 := Lib.hid ((HO.out.below hb92).more hb92.size)
  have HB3 := Lib.hid (HB1.out.trans (hb92.mono HB1.out.size))
  clear hb92
  clear hb2 HC HK HC2
  go_wp2_with fail
  go_region
  go_wp2_with fail
  go_ret2
  have bag := BagR.made w2 22 [.slice Ap hs.length cp] [(.slice Ap hs.length cp, hs)] rfl (by unfold maxLen; simp) (by intro p hp; simp only [List.mem_cons, List.not_mem_nil, or_false] at hp; subst hp; exact HO2.out)
  have dr : ∀ B (W : World), Below B W W.drew := fun _ _ => ⟨rfl, rfl, rfl, Nat.le_refl _, fun _ _ => rfl⟩
  exact ⟨_, _, rfl, (bag.below (dr _ _)).more (by simp), (HB3.out.alloc HB3.out.size (.cells #[.slice Ap hs.length cp] 22)).trans (dr _ _)⟩
end Go.Proofs.Ytpfobbhoahnebaa

/-
  Slices of slices of bytes: rows of the call's own, append of one, is there one of a kind. Conditions: sizes within the reach.
-/
namespace Go.Proofs.Ytpfobbhoahnebaa
open Go.RowKit

/-- A row of the call's own, each one's bytes in a block of the call's own. -/
def BagAt (w : World) (base : Nat) (v : Value) (L : List (Value × List UInt8)) : Prop :=
  w.ownsRow base 22 1 v L.length (L.map (·.1)) ∧ ∀ p ∈ L, OwnB w base p.1 p.2
theorem BagAt.nil (w : World) (base : Nat) : BagAt w base (.slice none 0 0) [] := ⟨World.ownsRow_nil _ _ _ _, fun _ h => by cases h⟩
theorem BagAt.form {w : World} {base : Nat} {v : Value} {L : List (Value × List UInt8)} (h : BagAt w base v L) : ∃ A c, v = .slice A L.length c := own_form h.1
theorem BagAt.base {w : World} {b b' : Nat} {v : Value} {L : List (Value × List UInt8)} (h : BagAt w b v L) (hb : b' ≤ b) : BagAt w b' v L := ⟨own_base h.1 hb, fun p hp => own_base (h.2 p hp) hb⟩
theorem BagAt.turns {S : Nat → Prop} {w w' : World} {base : Nat} {v : Value} {L : List (Value × List UInt8)} (h : BagAt w base v L) (ht : Turns S w w') (hv : ∀ k, v.ownBlock = some k → ¬ S k) (hL : ∀ p ∈ L, ∀ k, p.1.ownBlock = some k → ¬ S k) : BagAt w' base v L :=
  ⟨own_turns h.1 ht hv, fun p hp => own_turns (h.2 p hp) ht (hL p hp)⟩
theorem BagAt.below {w w' : World} {base : Nat} {v : Value} {L : List (Value × List UInt8)} (h : BagAt w base v L) (hb : Below w.heap.size w w') : BagAt w' base v L :=
  h.turns (Turns.of_below (S := fun _ => False) hb) (fun _ _ h => h) (fun _ _ _ _ h => h)
theorem BagAt.toR {w : World} {base : Nat} {v : Value} {L : List (Value × List UInt8)} (h : BagAt w base v L) : BagR w w.heap.size v L := by
  refine ⟨?_, fun p hp => Byt.of_own (h.2 p hp)⟩
  rcases h.1.2 with ⟨rfl, hn⟩ | ⟨g, cap, cur, rfl, hb, hg, hnc, hcm, hcs, ht⟩
  · obtain rfl : L = [] := List.eq_nil_of_length_eq_zero hn
    exact ⟨none, 0, rfl, Nat.le_refl _, by unfold maxLen; omega, fun h => absurd rfl h⟩
  · refine ⟨some ⟨g, 0, none⟩, cap, rfl, hnc, hcm, fun hne => ⟨g, 0, rfl, (h.1.lt g rfl).2, fun i p hp => ?_⟩⟩
    have hi := (List.getElem?_eq_some_iff.1 hp).1
    rw [Nat.zero_add]
    refine (World.ownsRow.cellAt h.1 i (by omega)).trans ?_
    rw [List.getElem?_map, hp]
    rfl
theorem BagAt.snoc {w w' : World} {base n : Nat} {v v' : Value} {L : List (Value × List UInt8)} {p : Value × List UInt8} (h : BagAt w base v L) (hd : OwnB w base p.1 p.2)
    (hown : w'.ownsRow base 22 1 v' n (L.map (·.1) ++ [p.1])) (he : n = L.length + 1) (hg : w.grownBy w' v.ownBlock) : BagAt w' base v' (L ++ [p]) := by
  have ht : Turns (fun k => v.ownBlock = some k) w w' := (Turns.refl _ w).grown hg (fun k hk _ => hk)
  subst he
  refine ⟨by rw [List.map_append, List.length_append]; exact hown, fun q hq => ?_⟩
  rcases List.mem_append.1 hq with hq | hq
  · exact own_turns (h.2 q hq) ht (fun k hk hv => own_types h.1 (h.2 q hq) (by decide) hv hk)
  · obtain rfl : q = p := by simpa using hq
    exact own_turns hd ht (fun k hk hv => own_types h.1 hd (by decide) hv hk)

theorem info_bag : (Try.prog.info? 22).map (fun i => (i.zero, i.size, i.bytes)) = some (some (.slice none 0 0), 1, 24) := by kernel_rfl
theorem slice_bag : Try.prog.underlying 46 = some (.slice 22) := Try.underlying46

/-- append of one slice of bytes. -/
theorem wpList_append_bag {w : World} {ops : Array Oper} {rest : List Oper} {o : Oper} {a : Act} {Q : Exit → Act → World → Prop} (hgd : o.guard = none) (s x : Operand)
    (ho : o.op = .call { callee := .builtin .append, args := #[s, x], argTypes := #[46, 46] })
    (base : Nat) (v : Value) (n : Nat) (xs : List Value) (hs : a.eval s = v) (hown : w.ownsRow base 22 1 v n xs)
    (g : Nat) (u0 : Value) (hx : a.eval x = .slice (some ⟨g, 0, none⟩) 1 1) (h0 : w.cell? ⟨g, 0, none⟩ = some u0) (k0 : u0.oneCell' = true)
    (hb : (n + 1) * 24 ≤ 140737488355328) (hbase : base ≤ w.heap.size)
    (h : ∀ v' w', w'.ownsRow base 22 1 v' (n + 1) (xs ++ [u0]) → w.grownBy w' v.ownBlock → wpList Try.prog ops Q rest (a.put o.dst v') w') :
    wpList Try.prog ops Q (o :: rest) a w := by
  obtain ⟨i, hi, hz, hsz, hby⟩ := info_parts info_bag
  refine wpList_plain hgd fun K hK => ?_
  obtain ⟨v', w', hrun, h2, h3, _, _⟩ := run_append_own_at (P := Try.prog) w base 46 o.type 22 i _ 1 24 slice_bag hi hz hsz hby rfl (by decide) v n xs hown ⟨g, 0, none⟩ 1 1 [u0] rfl
    (by
      intro j u hu
      match j, hu with
      | 0, hu => exact Option.some.inj hu ▸ h0)
    (by intro u hu; simp at hu; rcases hu with rfl; exact k0) (by unfold maxLen; omega) hb hbase
  unfold Oper.wp execOp
  simp only [ho, resolve, invoke, builtin, Sem.run_bind, Sem.run_pure, Result.andThen_ok, List.map_toArray, List.map_cons, List.map_nil, hs, hx, hrun]
  exact hK _ _ (h v' w' h2 h3)

/-- Is there one among these, at the index that is answered? -/
def FoundG (w : World) (f : List UInt8 → Bool) (L : List (Value × List UInt8)) (e : Ending) (w' : World) : Prop := ∃ i : Int, e = .returned (.int .i64 i) ∧ decide (0 ≤ i) = L.any (fun p => f p.2) ∧ Below w.heap.size w w'
theorem anyG_take {f : List UInt8 → Bool} {L : List (Value × List UInt8)} {k : Nat} (h : k < L.length) : (L.take (k + 1)).any (fun p => f p.2) = ((L.take k).any (fun p => f p.2) || f L[k].2) := by
  rw [List.take_succ_eq_append_getElem h, List.any_append]
  simp

set_option maxRecDepth 100000 in
set_option maxHeartbeats 1600000 in
theorem index_bag (g : FuncId) (eg : ∀ args W, (callFunc g args).run Try.prog W = .ok (.enter g args) W) (f : List UInt8 → Bool) (hg : ∀ (B : Nat) (x : Value) (xs : List UInt8) (W : World), Byt W B x xs → Calls Try.prog g #[x] W fun e W' => e = .returned (.bool (f xs)) ∧ Below W.heap.size W W')
    (B : Nat) (x : Value) (L : List (Value × List UInt8)) (w : World) (hx : BagR w B x L) (hB : B ≤ w.heap.size) :
    Calls Try.prog 89 #[x, .func (.func g) #[] #[]] w (FoundG w f L) := by
  have hlen := hx.len
  obtain ⟨A, c, rfl⟩ := hx.form
  have HX := Lib.hid hx
  have HG := Lib.hid hg
  clear hx hg
  go_enter Try.func89, Try.ntmps89
  go_wp2_with fail
  go_loopw [8] (fun s wr => ∃ k : Nat, k ≤ L.length ∧ s = .int .i64 (k : Int) ∧ Hid ((L.take k).any (fun p => f p.2) = false) ∧ Hid (Below w.heap.size w wr)) (fun s _ => L.length - (intOf s).toNat)
  case atStart => exact ⟨0, Nat.zero_le _, rfl, Lib.hid (by simp), Lib.hid (Below.refl _ _)⟩
  case round =>
    obtain ⟨k, hk, rfl, hno, hbel⟩ := hrel
    by_cases hlt : k < L.length
    · have hx1 := HX.out.below (hbel.out.mono hB)
      obtain ⟨⟨A', c', e0, _, _, h4⟩, h5⟩ := hx1
      obtain ⟨e1, e2, e3⟩ := Value.slice.inj e0
      subst e1 e3
      clear e2
      obtain ⟨b, o, rfl, hb, hc⟩ := h4 (by rintro rfl; simp at hlt)
      have hc0 := hc k _ (List.getElem?_eq_getElem hlt)
      have hby := h5 _ (List.getElem_mem hlt)
      have hsn := anyG_take (f := f) hlt
      obtain ⟨⟨d, zs⟩, hq⟩ : ∃ q, q = L[k] := ⟨_, rfl⟩
      rw [← hq] at hc0 hby hsn
      dsimp only at hc0 hby hsn
      obtain ⟨Ad, cd, rfl⟩ := hby.form
      have HSN := Lib.hid hsn
      have HT := Lib.hid (HG.out _ _ zs wr hby)
      clear hc h4 h5 hq hsn e0 hby
      have hd : decide (k < L.length) = true := by simpa using hlt
      by_cases hq0 : f zs = true
      · rw [hq0] at HT HSN
        clear hq0
        go_wp2_with fail
        refine HT.out.mono ?_
        rintro e w1 ⟨rfl, hb1⟩
        go_wp2_with fail
        go_ret
        refine ⟨k, rfl, ?_, hbel.out.trans (hb1.mono hbel.out.size)⟩
        rw [decide_eq_true (by omega)]
        have h2 : (L.take (k + 1)).any (fun p => f p.2) = true := by rw [HSN.out]; simp
        symm
        rw [List.any_eq_true] at h2 ⊢
        obtain ⟨y, hy, hy2⟩ := h2
        exact ⟨y, List.mem_of_mem_take hy, hy2⟩
      · have hq1 : f zs = false := by simpa using hq0
        rw [hq1] at HT HSN
        clear hq0 hq1
        go_wp2_with fail
        refine HT.out.mono ?_
        rintro e w1 ⟨rfl, hb1⟩
        go_wp2_with fail
        go_roundw
        case rel => exact ⟨k + 1, by omega, by go_num, Lib.hid (by rw [HSN.out, hno.out]; rfl), Lib.hid (hbel.out.trans (hb1.mono hbel.out.size))⟩
        case measure => simp [intOf]; omega
    · obtain rfl : k = L.length := by omega
      go_wp2_with fail
      go_ret
      refine ⟨-1, rfl, ?_, hbel.out⟩
      have := hno.out
      rw [List.take_length] at this
      rw [this]
      rfl

set_option maxHeartbeats 800000 in
theorem contains_bag (g : FuncId) (eg : ∀ args W, (callFunc g args).run Try.prog W = .ok (.enter g args) W) (f : List UInt8 → Bool) (hg : ∀ (B : Nat) (x : Value) (xs : List UInt8) (W : World), Byt W B x xs → Calls Try.prog g #[x] W fun e W' => e = .returned (.bool (f xs)) ∧ Below W.heap.size W W')
    (B : Nat) (x : Value) (L : List (Value × List UInt8)) (w : World) (hx : BagR w B x L) (hB : B ≤ w.heap.size) :
    Calls Try.prog 72 #[x, .func (.func g) #[] #[]] w fun e w' => e = .returned (.bool (L.any (fun p => f p.2))) ∧ Below w.heap.size w w' := by
  have H := Lib.hid (index_bag g eg f hg B x L w hx hB)
  obtain ⟨A, c, rfl⟩ := hx.form
  clear hx hg eg
  go_enter Try.func72, Try.ntmps72
  go_wp2_with fail
  refine H.out.mono ?_
  rintro e w1 ⟨i, rfl, hi, hb⟩
  have HI := Lib.hid hi
  clear hi
  go_wp2_with fail
  go_ret
  exact ⟨by rw [← HI.out]; rfl, hb⟩
theorem payMulti1_any (B : Nat) (x : Value) (xs : List UInt8) (w : World) (hx : Byt w B x xs) :
    Calls Try.prog 73 #[x] w fun e w' => e = .returned (.bool (xs.length != 33)) ∧ Below w.heap.size w w' := by
  have hb : ((xs.length : Int) != 33) = (xs.length != 33) := by
    rw [Bool.eq_iff_iff]
    simp only [bne_iff_ne, ne_eq]
    omega
  have HB := Lib.hid hb
  obtain ⟨A, c, rfl⟩ := hx.form
  clear hb hx
  go_enter Try.func73, Try.ntmps73
  go_wp2_with fail
  go_ret
  exact ⟨by rw [← HB.out]; rfl, Below.refl _ _⟩
theorem contains_long (B : Nat) (x : Value) (L : List (Value × List UInt8)) (w : World) (hx : BagR w B x L) (hB : B ≤ w.heap.size) :
    Calls Try.prog 72 #[x, .func (.func 73) #[] #[]] w fun e w' => e = .returned (.bool (L.any (fun p => p.2.length != 33))) ∧ Below w.heap.size w w' :=
  contains_bag _ (enters_of Try.func73 (by kernel_rfl) rfl) (fun xs => xs.length != 33) payMulti1_any B x L w hx hB
end Go.Proofs.Ytpfobbhoahnebaa

/-
  PayMulti, of the program. Conditions: twenty keys at most, forty bytes each.
-/
namespace Go.Proofs.Ytpfobbhoahnebaa
open Go.RowKit

def flatK (ks : List (List UInt8)) : List UInt8 := (ks.map (fun k => 33 :: k)).flatten
def multiForm (m : Int) (ks : List (List UInt8)) : List UInt8 := (vcode m :: flatK ks) ++ [vcode (ks.length : Int)] ++ [174]
def mE (m : Int) (ks : List (List UInt8)) : Int := if m < 1 ∨ (ks.length : Int) < m ∨ 16 < ks.length then 1 else if ks.any (fun k => k.length != 33) = true then 3 else 0
def mF (m : Int) (ks : List (List UInt8)) : List UInt8 := if mE m ks = 0 then multiForm m ks else []
/-- What PayMulti answers. -/
def PayMV (w : World) (m : Int) (ks : List (List UInt8)) (e : Ending) (w' : World) : Prop :=
  ∃ A c, e = .returned (.tuple #[.slice A (mF m ks).length c, .int .i64 (mE m ks)]) ∧ Byt w' w'.heap.size (.slice A (mF m ks).length c) (mF m ks) ∧ Below w.heap.size w w'
theorem payMV_no {w w' : World} {m k : Int} {ks : List (List UInt8)} (h : mE m ks = k) (hk : k ≠ 0) (hb : Below w.heap.size w w') : PayMV w m ks (.returned (.tuple #[.slice none 0 0, .int .i64 k])) w' := by
  subst h
  unfold PayMV mF
  rw [if_neg hk]
  exact ⟨none, 0, rfl, Byt.nil _ _, hb⟩
theorem payMV_ok {w w' : World} {m : Int} {ks : List (List UInt8)} {u : Value} (h : mE m ks = 0) (ho : OwnB w' w.heap.size u (multiForm m ks)) (hb : Below w.heap.size w w') : PayMV w m ks (.returned (.tuple #[u, .int .i64 0])) w' := by
  unfold PayMV mF
  rw [if_pos h, h]
  obtain ⟨A, c, rfl⟩ := own_form ho
  exact ⟨A, c, rfl, Byt.of_own ho, hb⟩
theorem flatK_snoc (ks : List (List UInt8)) (k : List UInt8) : flatK (ks ++ [k]) = flatK ks ++ (33 :: k) := by unfold flatK; simp
theorem flatK_len {ks : List (List UInt8)} (h : ks.any (fun k => k.length != 33) = false) : (flatK ks).length = 34 * ks.length := by
  induction ks with
  | nil => rfl
  | cons k ks ih =>
    rw [List.any_cons, Bool.or_eq_false_iff] at h
    have hk : k.length = 33 := by simpa using h.1
    have := ih h.2
    unfold flatK at this ⊢
    rw [List.map_cons, List.flatten_cons, List.length_append, this, List.length_cons, hk, List.length_cons]
    omega
theorem anyk_take {ks : List (List UInt8)} {f : List UInt8 → Bool} (h : ks.any f = false) (n : Nat) : (ks.take n).any f = false := by
  rw [List.any_eq_false] at h ⊢
  exact fun x hx => h x (List.mem_of_mem_take hx)
theorem push_key {k : List UInt8} (h : k.length = 33) : pushB k = 33 :: k := by
  have := push_prog k (by omega) (by omega)
  rw [h] at this
  exact this

set_option maxRecDepth 100000 in
set_option maxHeartbeats 6400000 in
theorem payMulti_any (m : Int) (B : Nat) (x : Value) (L : List (Value × List UInt8)) (w : World) (h0 : -9223372036854775808 ≤ m) (h1 : m ≤ 9223372036854775807) (hx : BagR w B x L) (hB : B ≤ w.heap.size) (hl : L.length ≤ 20) (hk40 : ∀ p ∈ L, p.2.length ≤ 40) :
    Calls Try.prog 39 #[.int .i64 m, x] w (PayMV w m (L.map (·.2))) := by
  obtain ⟨i0, hi, hz0, hz1, hz2⟩ := info_parts info_u8
  have HX := Lib.hid hx
  obtain ⟨A, c, rfl⟩ := hx.form
  have hE0 : mE m (L.map (·.2)) = if m < 1 ∨ (L.length : Int) < m ∨ 16 < L.length then 1 else if L.any (fun p => p.2.length != 33) = true then 3 else 0 := by
    unfold mE
    rw [List.length_map, List.any_map]
    rfl
  clear hx
  by_cases a1 : m < 1
  · rw [if_pos (.inl a1)] at hE0
    have HE := Lib.hid hE0
    clear hE0
    go_enter Try.func39, Try.ntmps39
    go_wp2_with fail
    go_ret2
    exact payMV_no HE.out (by decide) (Below.refl _ _)
  have d1 : decide (m < 1) = false := decide_eq_false a1
  by_cases a2 : (L.length : Int) < m
  · rw [if_pos (.inr (.inl a2))] at hE0
    have HE := Lib.hid hE0
    clear hE0 a1
    go_enter Try.func39, Try.ntmps39
    go_wp2_with fail
    go_ret2
    exact payMV_no HE.out (by decide) (Below.refl _ _)
  have d2 : decide ((L.length : Int) < m) = false := decide_eq_false a2
  by_cases a3 : 16 < L.length
  · rw [if_pos (.inr (.inr a3))] at hE0
    have d3 : decide ((16 : Int) < (L.length : Int)) = true := decide_eq_true (by omega)
    have HE := Lib.hid hE0
    clear hE0 a1 a2 a3
    go_enter Try.func39, Try.ntmps39
    go_wp2_with fail
    go_ret2
    exact payMV_no HE.out (by decide) (Below.refl _ _)
  have d3 : decide ((16 : Int) < (L.length : Int)) = false := decide_eq_false (by omega)
  rw [if_neg (by omega)] at hE0
  have HC := Lib.hid (contains_long B _ L w HX.out hB)
  obtain ⟨R, hR⟩ : ∃ R, R = L.any (fun p => p.2.length != 33) := ⟨_, rfl⟩
  rw [← hR] at hE0 HC
  have HR := Lib.hid hR
  have m0 : 0 ≤ m := by omega
  have m16 : m ≤ 16 := by omega
  have l16 : L.length ≤ 16 := by omega
  have hpm := push_small m m0 m16
  have hpn := push_small (L.length : Int) (by omega) (by omega)
  have HM := Lib.hid (fun W => pushNumber_any m W h0 h1)
  have HN := Lib.hid (fun W => pushNumber_any (L.length : Int) W (by omega) (by omega))
  rw [hpm] at HM
  rw [hpn] at HN
  have HE := Lib.hid hE0
  clear hE0 a1 a2 a3 hR hpm hpn
  cases R with
  | true =>
    go_enter Try.func39, Try.ntmps39
    go_wp2_with fail
    refine HC.out.mono ?_
    rintro e w1 ⟨rfl, hb1⟩
    go_wp2_with fail
    go_ret2
    exact payMV_no (by rw [HE.out]; exact if_pos trivial) (by decide) hb1
  | false =>
    have hall : ∀ p ∈ L, p.2.length = 33 := fun p hp => by
      have h := HR.out.symm
      rw [List.any_eq_false] at h
      simpa using h p hp
    have hks : (L.map (·.2)).any (fun k => k.length != 33) = false := by rw [List.any_map]; exact HR.out.symm
    have HALL := Lib.hid hall
    have HKS := Lib.hid hks
    clear hall hks
    go_enter Try.func39, Try.ntmps39
    go_wp2_with fail
    refine HC.out.mono ?_
    rintro e w1 ⟨rfl, hb1⟩
    have HB1 := Lib.hid hb1
    clear hb1
    go_wp2_with fail
    refine (HM.out _).mono ?_
    intro e w2 hfr
    obtain ⟨u2, rfl, hown2, hb2⟩ := fresh_v hfr
    have HO2 := Lib.hid (own_base hown2 HB1.out.size)
    have HB2 := Lib.hid (HB1.out.trans (hb2.mono HB1.out.size))
    clear hfr hown2 hb2
    go_wp2_with fail
    go_loopw [6, 28] (fun s t wr => ∃ (k : Nat) (v : Value), v = s ∧ k ≤ L.length ∧ t = .int .i64 (k : Int) ∧ Hid (OwnB wr w.heap.size v (vcode m :: flatK ((L.map (·.2)).take k))) ∧ Hid (Below w.heap.size w wr)) (fun _ t _ => L.length - (intOf t).toNat)
    case atStart => exact ⟨0, _, rfl, Nat.zero_le _, rfl, HO2, HB2⟩
    case round =>
      obtain ⟨k, v, hv, hk, rfl, hown, hbel⟩ := hrel
      subst hv
      by_cases hlt : k < L.length
      · obtain ⟨⟨A', c', e0, _, _, h4⟩, h5⟩ := HX.out.below (hbel.out.mono hB)
        obtain ⟨e1, e2, e3⟩ := Value.slice.inj e0
        subst e1 e3
        clear e2
        obtain ⟨b, o, rfl, hb, hc⟩ := h4 (by rintro rfl; simp at hlt)
        have hc0 := hc k _ (List.getElem?_eq_getElem hlt)
        have hby := h5 _ (List.getElem_mem hlt)
        have h33 := HALL.out _ (List.getElem_mem hlt)
        have hjt : flatK ((L.map (·.2)).take (k + 1)) = flatK ((L.map (·.2)).take k) ++ (33 :: L[k].2) := by
          rw [List.take_succ_eq_append_getElem (by rw [List.length_map]; exact hlt), flatK_snoc, List.getElem_map]
        have hfl := flatK_len (anyk_take HKS.out k)
        rw [List.length_take, List.length_map, Nat.min_eq_left (by omega)] at hfl
        obtain ⟨⟨pd, ys⟩, hpe⟩ : ∃ p, p = L[k] := ⟨_, rfl⟩
        rw [← hpe] at hc0 hby hjt h33
        dsimp only at hc0 hby hjt h33
        obtain ⟨Ad, cd, rfl⟩ := hby.form
        have HP := Lib.hid (push_any B _ ys wr hby (Nat.le_trans hB hbel.out.size) (by omega))
        rw [push_key h33] at HP
        have HJT := Lib.hid hjt
        have hdk : decide (k < L.length) = true := decide_eq_true hlt
        have HBN := Lib.hid (And.intro hfl h33)
        clear hc h4 h5 e0 hby hjt hpe hfl h33
        go_wp2_with fail
        refine HP.out.mono ?_
        intro e w3 hfr
        obtain ⟨u3, rfl, hown3, hb3⟩ := fresh_v hfr
        have HO3 := Lib.hid (own_turns hown.out (Turns.of_below (S := fun _ => False) hb3) (fun _ _ h => h))
        have HY3 := Lib.hid (Byt.of_own hown3)
        have HB3 := Lib.hid (hbel.out.trans (hb3.mono hbel.out.size))
        clear hfr hown3 hb3
        go_wp2_with (at_builtin; refine wpList_append_bytes rfl (.tmp 32) (.tmp 34) 22 rfl w.heap.size 5 i0 slice_u8 hi hz0 hz1 hz2 _ _ _ rfl HO3.out _ _ (33 :: ys) rfl HY3.out (by have := HBN.out; simp; omega) HB3.out.size ?_; intro v5 w5 hown5 hg5 hat5)
        have ho5 : OwnB w5 w.heap.size v5 (vcode m :: flatK ((L.map (·.2)).take (k + 1))) := by rw [HJT.out]; exact own_b hown5 rfl
        have hb5 : Below w.heap.size w w5 := HB3.out.grown hg5 HB3.out.size (fun j hj => (World.ownsRow.lt HO3.out j hj).1)
        have HO5 := Lib.hid ho5
        have HB5 := Lib.hid hb5
        clear hown5 hg5 hat5 ho5 hb5
        go_roundw
        case rel => exact ⟨k + 1, _, rfl, by omega, by go_num, HO5, HB5⟩
        case measure => simp [intOf]; omega
      · obtain rfl : k = L.length := by omega
        have ho := hown.out
        rw [List.take_of_length_le (by rw [List.length_map]; exact Nat.le_refl _)] at ho
        obtain ⟨A6, c6, rfl⟩ := own_form ho
        have HO := Lib.hid ho
        clear ho
        have hfl := flatK_len HKS.out
        rw [List.length_map] at hfl
        have hvl : (vcode m :: flatK (L.map (·.2))).length = 34 * L.length + 1 := by rw [List.length_cons, hfl]
        go_wp2_with fail
        refine (HN.out _).mono ?_
        intro e w6 hfr
        obtain ⟨u6, rfl, hown6, hb6⟩ := fresh_v hfr
        obtain ⟨A7, c7, rfl⟩ := own_form hown6
        have B6 := Lib.hid (hbel.out.trans (hb6.mono hbel.out.size))
        have y1 : Byt (w6.alloc (.cells #[.int .u8 174] 5)) (w6.alloc (.cells #[.int .u8 174] 5)).heap.size _ _ := (byt_later ((Byt.of_own HO.out).below hb6) (.cells #[.int .u8 174] 5)).more (by have := hb6.size; simp; omega)
        have y2 : Byt (w6.alloc (.cells #[.int .u8 174] 5)) (w6.alloc (.cells #[.int .u8 174] 5)).heap.size _ _ := (byt_later (Byt.of_own hown6) (.cells #[.int .u8 174] 5)).more (by simp)
        have y3 : Byt (w6.alloc (.cells #[.int .u8 174] 5)) (w6.alloc (.cells #[.int .u8 174] 5)).heap.size (.slice (some ⟨w6.heap.size, 0, none⟩) 1 1) [174] := (Byt.made w6 5 [.int .u8 174] [174] rfl (by unfold maxLen; simp)).more (by simp)
        obtain ⟨F, hF⟩ : ∃ F, F = vcode m :: flatK (L.map (·.2)) := ⟨_, rfl⟩
        rw [← hF] at y1 hvl
        have bag := BagR.made (w6.alloc (.cells #[.int .u8 174] 5)) 22 [.slice A6 F.length c6, .slice A7 [vcode (L.length : Int)].length c7, .slice (some ⟨w6.heap.size, 0, none⟩) 1 1]
          [(.slice A6 F.length c6, F), (.slice A7 [vcode (L.length : Int)].length c7, [vcode (L.length : Int)]), (.slice (some ⟨w6.heap.size, 0, none⟩) 1 1, [174])] rfl (by unfold maxLen; simp)
          (by intro p hp; simp only [List.mem_cons, List.not_mem_nil, or_false] at hp; rcases hp with rfl | rfl | rfl; exact y1; exact y2; exact y3)
        rw [World.size_alloc] at bag
        have ej : joined [((.slice A6 F.length c6 : Value), F), (.slice A7 [vcode (L.length : Int)].length c7, [vcode (L.length : Int)]), (.slice (some ⟨w6.heap.size, 0, none⟩) 1 1, [174])] = multiForm m (L.map (·.2)) := by
          unfold joined multiForm
          rw [hF, List.length_map]
          simp
        have hconc := concat_any _ _ _ _ bag (by simp) (by unfold total; simp; omega)
        rw [ej] at hconc
        have CONC := Lib.hid hconc
        have hl1 : [vcode (L.length : Int)].length = 1 := rfl
        rw [hl1] at CONC
        rw [hl1, ← hF]
        clear hconc ej bag y1 y2 y3 hl1 hF hvl hfl hfr hown6 hb6
        go_wp2_with fail
        refine CONC.out.mono ?_
        intro e w8 hfr
        obtain ⟨u8, rfl, hown8, hb8⟩ := fresh_v hfr
        have HO8 := Lib.hid (own_base hown8 (by have := B6.out.size; simp; omega : w.heap.size ≤ _))
        have B8 := Lib.hid (((B6.out.alloc B6.out.size (.cells #[.int .u8 174] 5)).alloc (by have := B6.out.size; simp; omega) (.cells #[.slice A6 F.length c6, .slice A7 1 c7, .slice (some ⟨w6.heap.size, 0, none⟩) 1 1] 22)).trans (hb8.mono (by have := B6.out.size; simp; omega)))
        clear hfr hown8 hb8
        go_wp2_with fail
        go_ret2
        exact payMV_ok (by rw [HE.out, if_neg (by decide)]) HO8.out B8.out
end Go.Proofs.Ytpfobbhoahnebaa

/-
  PayMulti, of the reference. Conditions: twenty keys at most, forty bytes each.
-/
namespace Go.Proofs.Ytpfobbhoahnebaa
open Go.RowKit

theorem cell_ad {w : World} {o : Obj} {b off : Nat} {v : Value} (h : w.cell? ⟨b, off, none⟩ = some v) (hb : b < w.heap.size) : ((w.alloc o).drew).cell? ⟨b, off, none⟩ = some v :=
  (((Below.refl _ w).alloc (Nat.le_refl _) o).cell (p := ⟨b, off, none⟩) hb).trans h
theorem bv_vcode {v : Int} (h0 : 0 < v) (h1 : v ≤ 16) : bv (vcode v) = .int .u8 (80 + v) := by
  unfold vcode bv
  rw [if_neg (by omega), UInt8.toNat_ofNat', Nat.mod_eq_of_lt (by omega)]
  congr 1
  omega

set_option maxRecDepth 100000 in
set_option maxHeartbeats 12800000 in
theorem rpayMulti_any (m : Int) (B : Nat) (x : Value) (L : List (Value × List UInt8)) (w : World) (_h0 : -9223372036854775808 ≤ m) (_h1 : m ≤ 9223372036854775807) (hx : BagR w B x L) (hB : B ≤ w.heap.size) (hl : L.length ≤ 20) (hk40 : ∀ p ∈ L, p.2.length ≤ 40) :
    Calls Try.prog 40 #[.int .i64 m, x] w (PayMV w m (L.map (·.2))) := by
  obtain ⟨i0, hi, hz0, hz1, hz2⟩ := info_parts info_u8
  have HX := Lib.hid hx
  have HK40 := Lib.hid hk40
  obtain ⟨A, c, rfl⟩ := hx.form
  have hE0 : mE m (L.map (·.2)) = if m < 1 ∨ (L.length : Int) < m ∨ 16 < L.length then 1 else if L.any (fun p => p.2.length != 33) = true then 3 else 0 := by
    unfold mE
    rw [List.length_map, List.any_map]
    rfl
  clear hx hk40
  by_cases a0 : L.length < 1
  · rw [if_pos (by omega)] at hE0
    have d0 : decide ((L.length : Int) < 1) = true := decide_eq_true (by omega)
    have HE := Lib.hid hE0
    clear hE0 a0
    go_enter Try.func40, Try.ntmps40
    go_wp2_with fail
    go_ret2
    exact payMV_no HE.out (by decide) (Below.refl _ _)
  have d0 : decide ((L.length : Int) < 1) = false := decide_eq_false (by omega)
  by_cases a3 : 16 < L.length
  · rw [if_pos (.inr (.inr a3))] at hE0
    have d3 : decide ((16 : Int) < (L.length : Int)) = true := decide_eq_true (by omega)
    have HE := Lib.hid hE0
    clear hE0 a0 a3
    go_enter Try.func40, Try.ntmps40
    go_wp2_with fail
    go_ret2
    exact payMV_no HE.out (by decide) (Below.refl _ _)
  have d3 : decide ((16 : Int) < (L.length : Int)) = false := decide_eq_false (by omega)
  by_cases a1 : m < 1
  · rw [if_pos (.inl a1)] at hE0
    have HE := Lib.hid hE0
    clear hE0 a0
    go_enter Try.func40, Try.ntmps40
    go_wp2_with fail
    go_ret2
    exact payMV_no HE.out (by decide) (Below.refl _ _)
  have d1 : decide (m < 1) = false := decide_eq_false a1
  by_cases a2 : (L.length : Int) < m
  · rw [if_pos (.inr (.inl a2))] at hE0
    have HE := Lib.hid hE0
    clear hE0 a1 a0
    go_enter Try.func40, Try.ntmps40
    go_wp2_with fail
    go_ret2
    exact payMV_no HE.out (by decide) (Below.refl _ _)
  have d2 : decide ((L.length : Int) < m) = false := decide_eq_false a2
  rw [if_neg (by omega)] at hE0
  have m0 : 0 ≤ m := by omega
  have m16 : m ≤ 16 := by omega
  have l16 : (L.length : Int) ≤ 16 := by omega
  have hbm : bv (vcode m) = .int .u8 (80 + m) := bv_vcode (by omega) m16
  have hbn : bv (vcode (L.length : Int)) = .int .u8 (80 + (L.length : Int)) := bv_vcode (by omega) l16
  have HO2 := Lib.hid (own_made w 5 [.int .u8 (80 + m)] [vcode m] (by rw [List.map_cons, hbm]; rfl) (by unfold maxLen; simp))
  have HB2 := Lib.hid ((Below.refl _ w).alloc (Nat.le_refl _) (.cells #[.int .u8 (80 + m)] 5))
  have HE := Lib.hid hE0
  have HBN := Lib.hid hbn
  clear hE0 a0 a1 a2 a3 hbm hbn
  go_enter Try.func40, Try.ntmps40
  go_wp2_with fail
  go_loopw [6, 7] (fun s t wr => ∃ (k : Nat) (v : Value), v = s ∧ k ≤ L.length ∧ t = .int .i64 (k : Int) ∧ Hid ((((L.map (·.2)).take k).any (fun k => k.length != 33)) = false) ∧ Hid (OwnB wr w.heap.size v (vcode m :: flatK ((L.map (·.2)).take k))) ∧ Hid (Below w.heap.size w wr)) (fun _ t _ => L.length - (intOf t).toNat)
  case atStart => exact ⟨0, _, rfl, Nat.zero_le _, rfl, Lib.hid (by simp), HO2, HB2⟩
  case round =>
    obtain ⟨k, v, hv, hk, rfl, hno, hown, hbel⟩ := hrel
    subst hv
    by_cases hlt : k < L.length
    · obtain ⟨⟨A', c', e0, _, _, h4⟩, h5⟩ := HX.out.below (hbel.out.mono hB)
      obtain ⟨e1, e2, e3⟩ := Value.slice.inj e0
      subst e1 e3
      clear e2
      obtain ⟨b, o, rfl, hb, hc⟩ := h4 (by rintro rfl; simp at hlt)
      have hc0 := hc k _ (List.getElem?_eq_getElem hlt)
      have hby := h5 _ (List.getElem_mem hlt)
      have h40 := HK40.out _ (List.getElem_mem hlt)
      have htk : (L.map (·.2)).take (k + 1) = (L.map (·.2)).take k ++ [L[k].2] := by
        rw [List.take_succ_eq_append_getElem (by rw [List.length_map]; exact hlt), List.getElem_map]
      have hany : L.any (fun p => p.2.length != 33) = true ∨ L[k].2.length = 33 := by
        by_cases e : L[k].2.length = 33
        · exact .inr e
        · refine .inl (List.any_eq_true.2 ⟨L[k], List.getElem_mem hlt, by simpa using e⟩)
      have hfl := flatK_len hno.out
      rw [List.length_take, List.length_map, Nat.min_eq_left (by omega)] at hfl
      obtain ⟨⟨pd, ys⟩, hpe⟩ : ∃ p, p = L[k] := ⟨_, rfl⟩
      rw [← hpe] at hc0 hby htk h40 hany
      dsimp only at hc0 hby htk h40 hany
      obtain ⟨Ad, cd, rfl⟩ := hby.form
      have HBY := Lib.hid hby
      have HTK := Lib.hid htk
      have hdk : decide ((k : Int) < (L.length : Int)) = true := decide_eq_true (by omega)
      have hdk2 : decide (k < L.length) = true := decide_eq_true hlt
      have hki : (0 : Int) ≤ (k : Int) := by omega
      have hkl : (k : Int) < (L.length : Int) := by omega
      have hbw : b < wr.heap.size := by have := hbel.out.size; omega
      clear hc h4 h5 e0 hby htk hpe
      by_cases h33 : ys.length = 33
      · have hn : ((ys.length : Int) != 33) = false := by rw [h33]; rfl
        have H33 := Lib.hid h33
        have HFL := Lib.hid hfl
        have hmade : Byt (wr.alloc (.cells #[.int .u8 33] 5)).drew (wr.heap.size + 1) (.slice (some ⟨wr.heap.size, 0, none⟩) 1 1) [33] := (Byt.made wr 5 [.int .u8 33] [33] rfl (by unfold maxLen; simp)).keep (fun _ _ _ => rfl)
        have hod : OwnB (wr.alloc (.cells #[.int .u8 33] 5)).drew w.heap.size v (vcode m :: flatK ((L.map (·.2)).take k)) := (World.ownsRow.alloc hown.out _).drew
        have hbd : Below w.heap.size w (wr.alloc (.cells #[.int .u8 33] 5)).drew := (hbel.out.alloc hbel.out.size _).drew
        have HMADE := Lib.hid hmade
        have HOD := Lib.hid hod
        have HBD := Lib.hid hbd
        clear h33 hfl hany hmade hod hbd
        go_wp2_with fail
        refine wp_region_held_drew (S := (fun w' => w'.cell? ⟨b, o + k, none⟩ = some (.slice Ad ys.length cd))) (by kernel_rfl) ?_ (fun hHeld => ?_)
        · exact hc0
        refine wpAnyH_take (i := 0) (oi := { dst := some 42, op := Go.Op.move (Go.Operand.tmp 6), type := 22, pos := "ref.go:252", after := #[], guard := none }) (v := ?av0) rfl (by kernel_rfl) (by kernel_rfl) (by kernel_rfl) (fun _ _ _ h => h) (Or.inl ⟨by rfl, ?ay0⟩) (by assumption) ?ar0
        case ay0 => (intro w hSw; (try dsimp only at hSw); go_simp; try (with_reducible rfl))
        case ar0 =>
        try simp only [Act.put, List.setIfInBounds_toArray, List.set_cons_zero, List.set_cons_succ]
        refine wpAnyH_take (i := 3) (oi := { dst := some 45, op := Go.Op.move (Go.Operand.tmp 1), type := 46, pos := "ref.go:252", after := #[], guard := none }) (v := ?av3) rfl (by kernel_rfl) (by kernel_rfl) (by kernel_rfl) (fun _ _ _ h => h) (Or.inl ⟨by rfl, ?ay3⟩) (by assumption) ?ar3
        case ay3 => (intro w hSw; (try dsimp only at hSw); go_simp; try (with_reducible rfl))
        case ar3 =>
        try simp only [Act.put, List.setIfInBounds_toArray, List.set_cons_zero, List.set_cons_succ]
        refine wpAnyH_take (i := 4) (oi := { dst := some 46, op := Go.Op.move (Go.Operand.tmp 7), type := 3, pos := "ref.go:252", after := #[], guard := none }) (v := ?av4) rfl (by kernel_rfl) (by kernel_rfl) (by kernel_rfl) (fun _ _ _ h => h) (Or.inl ⟨by rfl, ?ay4⟩) (by assumption) ?ar4
        case ay4 => (intro w hSw; (try dsimp only at hSw); go_simp; try (with_reducible rfl))
        case ar4 =>
        try simp only [Act.put, List.setIfInBounds_toArray, List.set_cons_zero, List.set_cons_succ]
        refine wpAnyH_take (i := 5) (oi := { dst := some 47, op := Go.Op.indexAddr 46 (Go.Operand.tmp 45) (Go.Operand.tmp 46), type := 0, pos := "ref.go:252", after := #[{ on := 3, ground := Go.Ground.data }, { on := 4, ground := Go.Ground.data }], guard := none }) (v := ?av5) rfl (by kernel_rfl) (by kernel_rfl) (by kernel_rfl) (fun _ _ _ h => h) (Or.inl ⟨by rfl, ?ay5⟩) (by assumption) ?ar5
        case ay5 => (intro w hSw; (try dsimp only at hSw); go_simp; try (with_reducible rfl))
        case ar5 =>
        try simp only [Act.put, List.setIfInBounds_toArray, List.set_cons_zero, List.set_cons_succ]
        refine wpAnyH_take (i := 6) (oi := { dst := some 48, op := Go.Op.load 22 (Go.Operand.tmp 47), type := 22, pos := "ref.go:252", after := #[{ on := 5, ground := Go.Ground.data }], guard := none }) (v := ?av6) rfl (by kernel_rfl) (by kernel_rfl) (by kernel_rfl) (fun _ _ _ h => h) (Or.inl ⟨by rfl, ?ay6⟩) (by assumption) ?ar6
        case ay6 => (intro w hSw; (try dsimp only at hSw); go_simp; try (with_reducible rfl))
        case ar6 =>
        try simp only [Act.put, List.setIfInBounds_toArray, List.set_cons_zero, List.set_cons_succ]
        refine wpAnyH_ready (rs := [1]) (by kernel_rfl) (by simp) ?_
        refine AllReadyH.cons (o := { dst := some 43, op := Go.Op.buildSlice 22 1 #[(0, Go.Operand.const (Go.Value.int Go.IntKind.u8 33))], type := 22, pos := "ref.go:252", after := #[], guard := none }) rfl (fun K hK => ?_) (AllReadyH.nil)
        go_simp
        refine hK.out _ _ ?_ (fun hHeld => ?_)
        · exact cell_ad hc0 hbw
        clear hK K
        try simp only [Act.put, List.setIfInBounds_toArray, List.set_cons_zero, List.set_cons_succ]
        refine wpAnyH_ready (rs := [2]) (by kernel_rfl) (by simp) ?_
        refine AllReadyH.cons (o := { dst := some 44, op := Go.Op.call { callee := Go.Callee.builtin Go.Builtin.append, args := #[Go.Operand.tmp 42, Go.Operand.tmp 43], argTypes := #[22, 22] }, type := 22, pos := "ref.go:252", after := #[{ on := 0, ground := Go.Ground.data }, { on := 1, ground := Go.Ground.data }], guard := none }) rfl (fun K hK => ?_) (AllReadyH.nil)
        simp only [Region.wanted, if_true]
        refine op_append_bytes (.tmp 42) (.tmp 43) 22 rfl w.heap.size 5 i0 slice_u8 hi hz0 hz1 hz2 _ _ _ rfl HOD.out _ _ [33] rfl HMADE.out (by have := HFL.out; simp; omega) HBD.out.size ?_
        intro v5 w5 hown5 hg5 hat5
        have ho5 : OwnB w5 w.heap.size v5 ((vcode m :: flatK ((L.map (·.2)).take k)) ++ [33]) := own_b hown5 rfl
        have hb5 : Below w.heap.size w w5 := HBD.out.grown hg5 HBD.out.size (fun j hj => (World.ownsRow.lt HOD.out j hj).1)
        have hq5 : Below w.heap.size wr w5 := ((((Below.refl w.heap.size wr).alloc hbel.out.size (.cells #[.int .u8 33] 5)).drew)).grown hg5 (by have := hbel.out.size; simp; omega) (fun j hj => (World.ownsRow.lt HOD.out j hj).1)
        have hc5 := (hq5.cell (p := ⟨b, o + k, none⟩) (by show b < _; omega)).trans hc0
        have HO5 := Lib.hid ho5
        have HB5 := Lib.hid hb5
        have HY5 := Lib.hid (HBY.out.below (hq5.mono hB))
        clear hown5 hg5 hat5 ho5 hb5
        refine hK.out _ _ ?_ (fun hHeld => ?_)
        · exact hc5
        clear hK K
        try simp only [Act.put, List.setIfInBounds_toArray, List.set_cons_zero, List.set_cons_succ]
        refine wpAnyH_ready (rs := [7]) (by kernel_rfl) (by simp) ?_
        refine AllReadyH.cons (o := { dst := some 49, op := Go.Op.call { callee := Go.Callee.builtin Go.Builtin.append, args := #[Go.Operand.tmp 44, Go.Operand.tmp 48], argTypes := #[22, 22] }, type := 22, pos := "ref.go:252", after := #[{ on := 2, ground := Go.Ground.data }, { on := 6, ground := Go.Ground.data }, { on := 2, ground := Go.Ground.chain }], guard := none }) rfl (fun K hK => ?_) (AllReadyH.nil)
        simp only [Region.wanted, if_true]
        refine op_append_bytes (.tmp 44) (.tmp 48) 22 rfl w.heap.size 5 i0 slice_u8 hi hz0 hz1 hz2 _ _ _ rfl HO5.out _ _ ys rfl HY5.out (by have := HFL.out; have := H33.out; simp; omega) HB5.out.size ?_
        intro v7 w7 hown7 hg7 hat7
        have ho7 : OwnB w7 w.heap.size v7 (((vcode m :: flatK ((L.map (·.2)).take k)) ++ [33]) ++ ys) := own_b hown7 rfl
        have hb7 : Below w.heap.size w w7 := HB5.out.grown hg7 HB5.out.size (fun j hj => (World.ownsRow.lt HO5.out j hj).1)
        have hq7 : Below w.heap.size w5 w7 := (Below.refl w.heap.size w5).grown hg7 HB5.out.size (fun j hj => (World.ownsRow.lt HO5.out j hj).1)
        have hc7 := (hq7.cell (p := ⟨b, o + k, none⟩) (by show b < _; omega)).trans hc5
        have HO7 := Lib.hid ho7
        have HB7 := Lib.hid hb7
        clear hown7 hg7 hat7 ho7 hb7
        refine hK.out _ _ ?_ (fun hHeld => ?_)
        · exact hc7
        clear hK K
        try simp only [Act.put, List.setIfInBounds_toArray, List.set_cons_zero, List.set_cons_succ]
        refine wpAnyH_take (i := 8) (oi := { dst := some 6, op := Go.Op.assign (Go.Operand.tmp 49), type := 22, pos := "ref.go:252", after := #[{ on := 7, ground := Go.Ground.data }, { on := 7, ground := Go.Ground.chain }, { on := 0, ground := Go.Ground.phase }, { on := 1, ground := Go.Ground.phase }, { on := 2, ground := Go.Ground.phase }, { on := 3, ground := Go.Ground.phase }, { on := 4, ground := Go.Ground.phase }, { on := 5, ground := Go.Ground.phase }, { on := 6, ground := Go.Ground.phase }, { on := 7, ground := Go.Ground.phase }], guard := none }) (v := ?a_1_2_7v8) rfl (by kernel_rfl) (by kernel_rfl) (by kernel_rfl) (fun _ _ _ h => h) (Or.inl ⟨by rfl, ?a_1_2_7y8⟩) (by assumption) ?a_1_2_7r8
        case a_1_2_7y8 => (intro w hSw; (try dsimp only at hSw); go_simp; try (with_reducible rfl))
        case a_1_2_7r8 =>
        try simp only [Act.put, List.setIfInBounds_toArray, List.set_cons_zero, List.set_cons_succ]
        refine wpAnyH_done (by kernel_rfl) ?_ _
        clear hHeld
        have hn1 : ((L.map (·.2)).take (k + 1)).any (fun k => k.length != 33) = false := by rw [HTK.out, List.any_append, hno.out]; simp [H33.out]
        have hn2 : OwnB w7 w.heap.size v7 (vcode m :: flatK ((L.map (·.2)).take (k + 1))) := by rw [HTK.out, flatK_snoc]; have := HO7.out; simpa using this
        have HN1 := Lib.hid hn1
        have HN2 := Lib.hid hn2
        clear hn1 hn2
        go_wp2_with fail
        go_roundw
        case rel => exact ⟨k + 1, _, rfl, by omega, by go_num, HN1, HN2, HB7⟩
        case measure => simp [intOf]; omega
      · have hn : ((ys.length : Int) != 33) = true := by simp only [bne_iff_ne, ne_eq]; omega
        have hat : L.any (fun p => p.2.length != 33) = true := by rcases hany with h | h; exact h; exact absurd h h33
        have HAT := Lib.hid hat
        clear h33 hany hat hfl
        go_wp2_with fail
        go_ret2
        exact payMV_no (by rw [HE.out]; exact if_pos HAT.out) (by decide) hbel.out
    · obtain rfl : k = L.length := by omega
      have hno2 := hno.out
      have ho := hown.out
      rw [List.take_of_length_le (by rw [List.length_map]; exact Nat.le_refl _)] at ho hno2
      have hfl := flatK_len hno2
      rw [List.length_map] at hfl
      have hae : L.any (fun p => p.2.length != 33) = false := by rw [List.any_map] at hno2; exact hno2
      have HAE := Lib.hid hae
      have HFL := Lib.hid hfl
      have HO := Lib.hid (World.ownsRow.alloc ho (.cells #[.int .u8 (80 + (L.length : Int)), .int .u8 174] 5))
      have HY := Lib.hid (Byt.made wr 5 [.int .u8 (80 + (L.length : Int)), .int .u8 174] [vcode (L.length : Int), 174] (by rw [List.map_cons, HBN.out]; rfl) (by unfold maxLen; simp))
      have HBB := Lib.hid (hbel.out.alloc hbel.out.size (.cells #[.int .u8 (80 + (L.length : Int)), .int .u8 174] 5))
      have hln : (0 : Int) ≤ (L.length : Int) := by omega
      clear ho hno2 hfl hae hlt
      go_wp2_with (at_builtin; refine wpList_append_bytes rfl (.tmp 50) (.tmp 55) 22 rfl w.heap.size 5 i0 slice_u8 hi hz0 hz1 hz2 _ _ _ rfl HO.out _ _ [vcode (L.length : Int), 174] rfl HY.out (by have := HFL.out; simp; omega) HBB.out.size ?_; intro v5 w5 hown5 hg5 hat5)
      go_ret2
      refine payMV_ok (by rw [HE.out]; exact if_neg (by rw [HAE.out]; decide)) ?_ (HBB.out.grown hg5 HBB.out.size (fun j hj => (World.ownsRow.lt HO.out j hj).1))
      have ho5 : OwnB w5 w.heap.size v5 ((vcode m :: flatK (L.map (·.2))) ++ [vcode (L.length : Int), 174]) := own_b hown5 rfl
      unfold multiForm
      rw [List.length_map]
      simpa using ho5
end Go.Proofs.Ytpfobbhoahnebaa
