/-
  script.Program at a witness program. Conditions: none.
-/
import Derived.Test.YtadgaeokiolmmaaSnSame
import Derived.OrdersHeld
import Derived.Deep.RegionHeld
namespace Go.Proofs.Ytadgaeokiolmmaa
open Go.RowKit

theorem run_from (A : Option Addr) (n c z : Nat) (hz : z ≤ n) (W : World) :
    (Instr.slice 22 (.slice A n c) (some (.int .i64 (z : Int))) none none).run Try.prog W = .ok (.slice (if c = z then A else A.map (fun x => x.add z)) (n - z) (c - z)) W := by
  obtain ⟨i0, hi, hz0, hz1, hz2⟩ := info_parts info_u8
  have he : Try.prog.elem 22 = 5 := by kernel_rfl
  have ht : Try.prog.underlying 22 = some (.slice (Try.prog.elem 22)) := by rw [he]; exact slice_u8
  rw [run_slice_l (ht := ht) (h0 := by omega) (h1 := by omega), he]
  simp [sizeOf, typeInfo, hi, hz1, sliced, go_sem]

set_option maxRecDepth 100000 in
set_option maxHeartbeats 6400000 in
theorem prog_yes (B : Nat) (x : Value) (a b : UInt8) (ys : List UInt8) (w : World) (hx : Byt w B x (a :: b :: ys)) (hB : B ≤ w.heap.size) (h : b.toNat = ys.length) (h2 : 2 ≤ ys.length) (h40 : ys.length ≤ 40) (hs : 0 ≤ smallB a) :
    Calls Try.prog 29 #[x] w fun e w' => ∃ v, e = .returned (.tuple #[.int .i64 (smallB a), v, .bool true]) ∧ OwnB w' w.heap.size v ys ∧ Below w.heap.size w w' := by
  have HX := Lib.hid hx
  obtain ⟨A, c, rfl, h1, hm, _, h4⟩ := hx
  obtain ⟨gb, o, rfl, hb, hc⟩ := h4 (by simp)
  have hcell1 : w.cell? ⟨gb, o + 1, none⟩ = some (.int .u8 (b.toNat : Int)) := hc 1 b rfl
  have hcell0 : w.cell? ⟨gb, o, none⟩ = some (.int .u8 (a.toNat : Int)) := hc 0 a rfl
  have htl : Byt w B (.slice (some ⟨gb, o + 2, none⟩) ys.length (c - 2)) ys := by
    refine ⟨_, _, rfl, by simp at h1; omega, by omega, (by intro h; cases h), fun _ => ⟨gb, o + 2, rfl, hb, fun j u hu => ?_⟩⟩
    have := hc (j + 2) u (by simpa using hu)
    rw [Nat.add_assoc, Nat.add_comm 2 j]
    exact this
  obtain ⟨n, hn⟩ : ∃ n, n = ys.length := ⟨_, rfl⟩
  have e : (a :: b :: ys).length = n + 2 := by simp [hn]
  rw [e] at h1 ⊢
  rw [← hn] at h h2 h40 htl
  unfold maxLen at hm
  have hsl : ∀ W, (Instr.slice 22 (.slice (some ⟨gb, o, none⟩) (n + 2) c) (some (.int .i64 2)) none none).run Try.prog W = .ok (.slice (some ⟨gb, o + 2, none⟩) n (c - 2)) W := fun W => by
    have := run_from (some ⟨gb, o, none⟩) (n + 2) c 2 (by omega) W
    rw [if_neg (by omega)] at this
    have hadd : (⟨gb, o, none⟩ : Addr).add 2 = ⟨gb, o + 2, none⟩ := by unfold Addr.add; split <;> simp_all
    rw [Option.map_some, hadd, Nat.add_sub_cancel] at this
    exact this
  have d1 : decide ((n : Int) + 2 < 4) = false := decide_eq_false (by omega)
  have d2 : decide ((42 : Int) < (n : Int) + 2) = false := decide_eq_false (by omega)
  have d3 : ((b.toNat : Int) != (n : Int)) = false := by simp [h]
  have d4 : decide (smallB a < 0) = false := decide_eq_false (by omega)
  have hpos : (0 : Int) < (n : Int) + 2 := by omega
  have hb256 := b.toNat_lt
  have hbw : gb < w.heap.size := by omega
  have HT := Lib.hid htl
  have HS := Lib.hid (fun W => small_any a W)
  have HN := Lib.hid hn
  have hs16 := (smallB_bd a).2
  obtain ⟨sv, hsv⟩ : ∃ sv, sv = smallB a := ⟨_, rfl⟩
  rw [← hsv] at HS d4 hs hs16 ⊢
  clear hc h4 e h hn htl hsv HX
  go_enter Try.func29, Try.ntmps29
  go_wp2_with fail
  refine (HS.out _).mono ?_
  rintro e w1 ⟨rfl, rfl⟩
  go_wp2_with fail
  refine wp_region_held_drew (S := (fun w' => w'.cell? ⟨gb, o, none⟩ = some (.int .u8 (a.toNat : Int)) ∧ Byt w' B (.slice (some ⟨gb, o + 2, none⟩) n (c - 2)) ys ∧ Below w.heap.size w w')) (by kernel_rfl) ?_ (fun hHeld => ?_)
  · exact ⟨hcell0, byt_drewN HT.out 1, (⟨rfl, rfl, rfl, Nat.le_refl _, fun _ _ => rfl⟩ : Below w.heap.size w w.drew)⟩
  refine wpAnyH_take (i := 0) (oi := { dst := some 30, op := Go.Op.move (Go.Operand.tmp 0), type := 22, pos := "form.go:103", after := #[], guard := none }) (v := ?av0) rfl (by kernel_rfl) (by kernel_rfl) (by kernel_rfl) (fun _ _ _ h => h) (Or.inl ⟨by rfl, ?ay0⟩) (by assumption) ?ar0
  case ay0 => (intro w hSw; (try dsimp only at hSw); go_simp; try (with_reducible rfl))
  case ar0 =>
  try simp only [Act.put, List.setIfInBounds_toArray, List.set_cons_zero, List.set_cons_succ]
  refine wpAnyH_take (i := 1) (oi := { dst := some 31, op := Go.Op.indexAddr 22 (Go.Operand.tmp 30) (Go.Operand.const (Go.Value.int Go.IntKind.i64 0)), type := 0, pos := "form.go:103", after := #[{ on := 0, ground := Go.Ground.data }], guard := none }) (v := ?av1) rfl (by kernel_rfl) (by kernel_rfl) (by kernel_rfl) (fun _ _ _ h => h) (Or.inl ⟨by rfl, ?ay1⟩) (by assumption) ?ar1
  case ay1 => (intro w hSw; (try dsimp only at hSw); go_simp; try (with_reducible rfl))
  case ar1 =>
  try simp only [Act.put, List.setIfInBounds_toArray, List.set_cons_zero, List.set_cons_succ]
  refine wpAnyH_take (i := 2) (oi := { dst := some 32, op := Go.Op.load 5 (Go.Operand.tmp 31), type := 5, pos := "form.go:103", after := #[{ on := 1, ground := Go.Ground.data }], guard := none }) (v := ?av2) rfl (by kernel_rfl) (by kernel_rfl) (by kernel_rfl) (fun _ _ _ h => h) (Or.inl ⟨by rfl, ?ay2⟩) (by assumption) ?ar2
  case ay2 => (intro w hSw; (try dsimp only at hSw); go_simp; try (with_reducible rfl))
  case ar2 =>
  try simp only [Act.put, List.setIfInBounds_toArray, List.set_cons_zero, List.set_cons_succ]
  refine wpAnyH_take (i := 4) (oi := { dst := some 34, op := Go.Op.move (Go.Operand.tmp 0), type := 22, pos := "form.go:103", after := #[], guard := none }) (v := ?av4) rfl (by kernel_rfl) (by kernel_rfl) (by kernel_rfl) (fun _ _ _ h => h) (Or.inl ⟨by rfl, ?ay4⟩) (by assumption) ?ar4
  case ay4 => (intro w hSw; (try dsimp only at hSw); go_simp; try (with_reducible rfl))
  case ar4 =>
  try simp only [Act.put, List.setIfInBounds_toArray, List.set_cons_zero, List.set_cons_succ]
  refine wpAnyH_take (i := 5) (oi := { dst := some 35, op := Go.Op.slice 22 (Go.Operand.tmp 34) (some (Go.Operand.const (Go.Value.int Go.IntKind.i64 2))) none none, type := 22, pos := "form.go:103", after := #[{ on := 4, ground := Go.Ground.data }], guard := none }) (v := ?av5) rfl (by kernel_rfl) (by kernel_rfl) (by kernel_rfl) (fun _ _ _ h => h) (Or.inl ⟨by rfl, ?ay5⟩) (by assumption) ?ar5
  case ay5 => (intro w hSw; (try dsimp only at hSw); go_simp; try (with_reducible rfl))
  case ar5 =>
  try simp only [Act.put, List.setIfInBounds_toArray, List.set_cons_zero, List.set_cons_succ]
  refine wpAnyH_ready (rs := [3]) (by kernel_rfl) (by simp) ?_
  refine AllReadyH.cons (o := { dst := some 33, op := Go.Op.call { callee := Go.Callee.value (Go.Operand.func 69), args := #[Go.Operand.tmp 32], argTypes := #[5] }, type := 3, pos := "form.go:103", after := #[{ on := 2, ground := Go.Ground.data }], guard := none }) rfl (fun K hK => ?_) (AllReadyH.nil)
  go_simp
  refine (HS.out _).mono ?_
  rintro e w4 ⟨rfl, rfl⟩
  go_simp
  refine hK.out _ _ ?_ (fun hHeld => ?_)
  · exact hHeld
  clear hK K
  try simp only [Act.put, List.setIfInBounds_toArray, List.set_cons_zero, List.set_cons_succ]
  refine wpAnyH_ready (rs := [6]) (by kernel_rfl) (by simp) ?_
  refine AllReadyH.cons (o := { dst := some 36, op := Go.Op.call { callee := Go.Callee.value (Go.Operand.func 66), args := #[Go.Operand.tmp 35], argTypes := #[22] }, type := 22, pos := "form.go:103", after := #[{ on := 5, ground := Go.Ground.data }, { on := 3, ground := Go.Ground.chain }], guard := none }) rfl (fun K hK => ?_) (AllReadyH.nil)
  go_simp
  refine (bclone_any B _ ys _ hHeld.2.1 (by have := HN.out; omega)).mono ?_
  intro e w6 hfr
  obtain ⟨u6, rfl, hown6, hb6⟩ := fresh_v hfr
  have HO := Lib.hid (own_base hown6 hHeld.2.2.size)
  go_simp
  refine hK.out _ _ ?_ (fun hHeld => ?_)
  · exact ⟨(hb6.cell (p := ⟨gb, o, none⟩) (by have := hHeld.2.2.size; show gb < _; omega)).trans hHeld.1, hHeld.2.1.below (hb6.mono (Nat.le_trans hB hHeld.2.2.size)), hHeld.2.2.trans (hb6.mono hHeld.2.2.size)⟩
  clear hK K
  try simp only [Act.put, List.setIfInBounds_toArray, List.set_cons_zero, List.set_cons_succ]
  refine wpAnyH_take (i := 7) (oi := { dst := some 2, op := Go.Op.assign (Go.Operand.tmp 33), type := 3, pos := "form.go:103", after := #[{ on := 3, ground := Go.Ground.data }, { on := 6, ground := Go.Ground.chain }, { on := 0, ground := Go.Ground.phase }, { on := 1, ground := Go.Ground.phase }, { on := 2, ground := Go.Ground.phase }, { on := 3, ground := Go.Ground.phase }, { on := 4, ground := Go.Ground.textOnly Go.Departure.lateStores }, { on := 5, ground := Go.Ground.textOnly Go.Departure.lateStoresUnsure }, { on := 6, ground := Go.Ground.textOnly Go.Departure.lateStoresUnsure }], guard := none }) (v := ?a_3_6v7) rfl (by kernel_rfl) (by kernel_rfl) (by kernel_rfl) (fun _ _ _ h => h) (Or.inl ⟨by rfl, ?a_3_6y7⟩) (by assumption) ?a_3_6r7
  case a_3_6y7 => (intro w hSw; (try dsimp only at hSw); go_simp; try (with_reducible rfl))
  case a_3_6r7 =>
  try simp only [Act.put, List.setIfInBounds_toArray, List.set_cons_zero, List.set_cons_succ]
  refine wpAnyH_take (i := 8) (oi := { dst := some 3, op := Go.Op.assign (Go.Operand.tmp 36), type := 22, pos := "form.go:103", after := #[{ on := 6, ground := Go.Ground.data }, { on := 7, ground := Go.Ground.chain }, { on := 0, ground := Go.Ground.phase }, { on := 1, ground := Go.Ground.phase }, { on := 2, ground := Go.Ground.phase }, { on := 3, ground := Go.Ground.phase }, { on := 4, ground := Go.Ground.phase }, { on := 5, ground := Go.Ground.phase }, { on := 6, ground := Go.Ground.phase }, { on := 7, ground := Go.Ground.phase }], guard := none }) (v := ?a_3_6v8) rfl (by kernel_rfl) (by kernel_rfl) (by kernel_rfl) (fun _ _ _ h => h) (Or.inl ⟨by rfl, ?a_3_6y8⟩) (by assumption) ?a_3_6r8
  case a_3_6y8 => (intro w hSw; (try dsimp only at hSw); go_simp; try (with_reducible rfl))
  case a_3_6r8 =>
  try simp only [Act.put, List.setIfInBounds_toArray, List.set_cons_zero, List.set_cons_succ]
  refine wpAnyH_take (i := 9) (oi := { dst := some 4, op := Go.Op.assign (Go.Operand.const (Go.Value.bool true)), type := 4, pos := "form.go:103", after := #[{ on := 8, ground := Go.Ground.chain }, { on := 0, ground := Go.Ground.phase }, { on := 1, ground := Go.Ground.phase }, { on := 2, ground := Go.Ground.phase }, { on := 3, ground := Go.Ground.phase }, { on := 4, ground := Go.Ground.phase }, { on := 5, ground := Go.Ground.phase }, { on := 6, ground := Go.Ground.phase }, { on := 7, ground := Go.Ground.phase }, { on := 8, ground := Go.Ground.phase }], guard := none }) (v := ?a_3_6v9) rfl (by kernel_rfl) (by kernel_rfl) (by kernel_rfl) (fun _ _ _ h => h) (Or.inl ⟨by rfl, ?a_3_6y9⟩) (by assumption) ?a_3_6r9
  case a_3_6y9 => (intro w hSw; (try dsimp only at hSw); go_simp; try (with_reducible rfl))
  case a_3_6r9 =>
  try simp only [Act.put, List.setIfInBounds_toArray, List.set_cons_zero, List.set_cons_succ]
  refine wpAnyH_done (by kernel_rfl) ?_ _
  have HF := Lib.hid hHeld.2.2
  go_wp2_with fail
  go_ret3
  exact ⟨_, rfl, HO.out, HF.out⟩
end Go.Proofs.Ytadgaeokiolmmaa
