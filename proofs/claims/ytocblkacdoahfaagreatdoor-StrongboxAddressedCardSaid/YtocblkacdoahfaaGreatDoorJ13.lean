/-
  Texts joined: SnLawR, SnSame, SnProg. Conditions: those of each.
-/
import Derived.Test.YtocblkacdoahfaaGreatDoorJ12
import Derived.BigQuiet
import Derived.Deep.QuietTactic
import Derived.OrdersHeld
import Derived.Deep.RegionHeld
/-
  The law on parsing. Conditions: none.
-/
namespace Go.Proofs.YtocblkacdoahfaaGreatDoor.Sn
open Go.RowKit

theorem byt_drewN {w : World} {B : Nat} {v : Value} {xs : List UInt8} (h : Byt w B v xs) (n : Nat) : Byt (w.drewN n) B v xs := h.keep fun _ _ _ => rfl

/-- The blocks of the first i operations' bytes. -/
def Of (L : List Piece) (i : Nat) (k : Nat) : Prop := ∃ q ∈ L.take i, q.at_.ownBlock = some k
theorem Of.next {L : List Piece} {i k : Nat} (h : Of L i k) : Of L (i + 1) k := by
  obtain ⟨q, hq, hk⟩ := h
  exact ⟨q, (List.take_subset_take_left L (Nat.le_succ i)) hq, hk⟩
theorem Of.mem {L : List Piece} {i k : Nat} (h : Of L i k) : ∃ q ∈ L, q.at_.ownBlock = some k := by
  obtain ⟨q, hq, hk⟩ := h
  exact ⟨q, List.mem_of_mem_take hq, hk⟩
theorem of_self {L : List Piece} {i k : Nat} (h : i < L.length) (hk : L[i].at_.ownBlock = some k) : Of L (i + 1) k := ⟨L[i], by rw [List.take_succ_eq_append_getElem h]; exact List.mem_append.2 (.inr (List.mem_singleton.2 rfl)), hk⟩
/-- The i-th one's block is none of the first i ones'. -/
theorem of_apart {w : World} {base : Nat} {v : Value} {L : List Piece} (h : OpsAt w base v L) {i k : Nat} (hi : i < L.length) (hk : L[i].at_.ownBlock = some k) : ¬ Of L i k := by
  rintro ⟨q, hq, hqk⟩
  obtain ⟨j, hj, e⟩ := List.getElem_of_mem hq
  rw [List.length_take] at hj
  rw [List.getElem_take] at e
  have := List.pairwise_iff_getElem.1 h.2.2 j i (by omega) hi (by omega)
  exact this k (by rw [e]; exact hqk) hk
theorem of_row {w : World} {base : Nat} {v : Value} {L : List Piece} (h : OpsAt w base v L) {i k : Nat} (hv : v.ownBlock = some k) : ¬ Of L i k := by
  intro ho
  obtain ⟨q, hq, hk⟩ := ho.mem
  exact own_types h.1 (h.2.1 q hq) (by decide) hv hk
theorem of_low {w : World} {base : Nat} {v : Value} {L : List Piece} (h : OpsAt w base v L) {i k : Nat} (ho : Of L i k) : base ≤ k ∧ k < w.heap.size := by
  obtain ⟨q, hq, hk⟩ := ho.mem
  exact World.ownsRow.lt (h.2.1 q hq) k hk

theorem pair_at {L R : List Piece} (h : L.map Piece.pair = R.map Piece.pair) {i : Nat} (h1 : i < L.length) (h2 : i < R.length) : L[i].code = R[i].code ∧ L[i].data = R[i].data := by
  have : (L.map Piece.pair)[i]'(by simp; exact h1) = (R.map Piece.pair)[i]'(by simp; exact h2) := by simp only [h]
  rw [List.getElem_map, List.getElem_map] at this
  unfold Piece.pair at this
  exact ⟨(Prod.mk.inj this).1, (Prod.mk.inj this).2⟩

end Go.Proofs.YtocblkacdoahfaaGreatDoor.Sn

/-
  The reference's Same; script.Program; PayWitness. Conditions: sizes within the reach.
-/
namespace Go.Proofs.YtocblkacdoahfaaGreatDoor.Sn
open Go.RowKit

theorem parts_at {L M : List (Value × List UInt8)} (h : L.map (·.2) = M.map (·.2)) {i : Nat} (h1 : i < L.length) (h2 : i < M.length) : L[i].2 = M[i].2 := by
  have : (L.map (·.2))[i]'(by simp; exact h1) = (M.map (·.2))[i]'(by simp; exact h2) := by simp only [h]
  rw [List.getElem_map, List.getElem_map] at this
  exact this

set_option maxRecDepth 100000 in
set_option maxHeartbeats 3200000 in
theorem same_yes (B B' : Nat) (x y : Value) (L M : List (Value × List UInt8)) (w : World) (hx : BagR w B x L) (hy : BagR w B' y M) (h : L.map (·.2) = M.map (·.2)) :
    Calls Tryz.prog 12 #[x, y] w fun e w' => e = .returned (.bool true) ∧ Below w.heap.size w w' := by
  have hlen := hx.len
  have hML : M.length = L.length := by have := congrArg List.length h; simpa using this.symm
  obtain ⟨A, c, rfl⟩ := hx.form
  obtain ⟨A2, c2, rfl⟩ := hy.form
  have HX := Lib.hid hx
  have HY := Lib.hid hy
  have HH := Lib.hid h
  have HML := Lib.hid hML
  rw [hML]
  clear hx hy h hML
  go_enter Tryz.func12, Tryz.ntmps12
  go_wp2_with fail
  go_loopw [5] (fun s wr => ∃ i : Nat, i ≤ L.length ∧ s = .int .i64 (i : Int) ∧ ∃ k, wr = w.drewN k) (fun s _ => L.length - (intOf s).toNat)
  case atStart => exact ⟨0, Nat.zero_le _, rfl, 0, rfl⟩
  case round =>
    obtain ⟨i, hi, rfl, k, rfl⟩ := hrel
    by_cases hlt : i < L.length
    · have hlt2 : i < M.length := by rw [HML.out]; exact hlt
      obtain ⟨⟨A', c', e0, _, _, h4⟩, h5⟩ := HX.out
      obtain ⟨e1, e2, e3⟩ := Value.slice.inj e0
      subst e1 e3
      clear e2
      obtain ⟨b, o, rfl, hb, hc⟩ := h4 (by rintro rfl; simp at hlt)
      obtain ⟨⟨A', c', e0', _, _, h6⟩, h7⟩ := HY.out
      obtain ⟨e1, e2, e3⟩ := Value.slice.inj e0'
      subst e1 e3
      clear e2
      obtain ⟨b2, o2, rfl, hb2, hc2⟩ := h6 (by rintro rfl; simp at hlt2)
      have q0 := hc i _ (List.getElem?_eq_getElem hlt)
      have q1 := hc2 i _ (List.getElem?_eq_getElem hlt2)
      have y0 := h5 _ (List.getElem_mem hlt)
      have y1 := h7 _ (List.getElem_mem hlt2)
      have he := parts_at HH.out hlt hlt2
      obtain ⟨Ap, cp, hp⟩ := y0.form
      obtain ⟨Aq, cq, hq⟩ := y1.form
      rw [← he] at y1 hq
      obtain ⟨W, hW⟩ : ∃ W, W = w.drewN k := ⟨_, rfl⟩
      have HEQ := Lib.hid (fun n => (equal_yes _ _ _ _ L[i].2 L[i].2 (W.drewN n) (byt_drewN (by rw [hW]; exact byt_drewN y0 k) n) (byt_drewN (by rw [hW]; exact byt_drewN y1 k) n) rfl).mono (R' := fun e w' => e = .returned (.bool true) ∧ w' = W.drewN n) (fun e w' ⟨h1, h2⟩ => ⟨h1, h2.symm⟩))
      rw [hp, hq] at HEQ
      rw [hp] at q0
      rw [hq] at q1
      obtain ⟨m, hm⟩ : ∃ m, m = L[i].2.length := ⟨_, rfl⟩
      rw [← hm] at HEQ q0 q1
      have k0 : W.cell? ⟨b, o + i, none⟩ = some (.slice Ap m cp) := by rw [hW]; exact q0
      have k1 : W.cell? ⟨b2, o2 + i, none⟩ = some (.slice Aq m cq) := by rw [hW]; exact q1
      have HW := Lib.hid hW
      rw [← hW]
      clear hc hc2 h4 h5 h6 h7 e0 e0' q0 q1 y0 y1 he hp hq hm hW
      go_wp2_with fail
      go_quiet ((go_at_call 41; exact Calls.quiet_of_same (HEQ.out _)))
      go_wp2_with fail
      go_roundw
      case rel => exact ⟨i + 1, by omega, by go_num, _, by rw [HW.out]; first | rfl | exact World.drewN_drewN _ _ _⟩
      case measure => simp [intOf]; omega
    · go_wp2_with fail
      go_ret
      exact ⟨rfl, ⟨rfl, rfl, rfl, Nat.le_refl _, fun _ _ => rfl⟩⟩

/-- The version and the push of a witness program. -/
def progB (xs : List UInt8) : Option (Int × List UInt8) :=
  match xs with
  | a :: b :: ys => if ys.length < 2 ∨ 40 < ys.length ∨ b.toNat ≠ ys.length ∨ smallB a < 0 then none else some (smallB a, ys)
  | _ => none
def ProgV (w : World) (xs : List UInt8) (e : Ending) (w' : World) : Prop :=
  match progB xs with
  | none => e = .returned (.tuple #[.int .i64 0, .slice none 0 0, .bool false]) ∧ Below w.heap.size w w'
  | some p => ∃ v, e = .returned (.tuple #[.int .i64 p.1, v, .bool true]) ∧ OwnB w' w.heap.size v p.2 ∧ Below w.heap.size w w'
theorem smallB_bd (c : UInt8) : -1 ≤ smallB c ∧ smallB c ≤ 16 := by
  have := c.toNat_lt
  unfold smallB
  split
  · omega
  split <;> omega

set_option maxRecDepth 100000 in
set_option maxHeartbeats 3200000 in
theorem prog_no (B : Nat) (x : Value) (a b : UInt8) (ys : List UInt8) (w : World) (hx : Byt w B x (a :: b :: ys)) (h : b.toNat ≠ ys.length) (h2 : 2 ≤ ys.length) (h40 : ys.length ≤ 40) :
    Calls Tryz.prog 33 #[x] w fun e w' => e = .returned (.tuple #[.int .i64 0, .slice none 0 0, .bool false]) ∧ w = w' := by
  obtain ⟨A, c, rfl, h1, hm, _, h4⟩ := hx
  obtain ⟨gb, o, rfl, hb, hc⟩ := h4 (by simp)
  have hcell : w.cell? ⟨gb, o + 1, none⟩ = some (.int .u8 (b.toNat : Int)) := hc 1 b rfl
  obtain ⟨n, hn⟩ : ∃ n, n = ys.length := ⟨_, rfl⟩
  have e : (a :: b :: ys).length = n + 2 := by simp [hn]
  rw [e] at h1 ⊢
  rw [← hn] at h h2 h40
  unfold maxLen at hm
  have d1 : decide ((n : Int) + 2 < 4) = false := decide_eq_false (by omega)
  have d2 : decide ((42 : Int) < (n : Int) + 2) = false := decide_eq_false (by omega)
  have d3 : ((b.toNat : Int) != (n : Int)) = true := by simp only [bne_iff_ne, ne_eq]; omega
  have hb256 := b.toNat_lt
  clear hc h4 e hn h
  go_enter Tryz.func33, Tryz.ntmps33
  go_wp2_with fail
  go_ret3
  exact ⟨rfl, rfl⟩
end Go.Proofs.YtocblkacdoahfaaGreatDoor.Sn

/-
  script.Program at a witness program. Conditions: none.
-/
namespace Go.Proofs.YtocblkacdoahfaaGreatDoor.Sn
open Go.RowKit

theorem run_from (A : Option Addr) (n c z : Nat) (hz : z ≤ n) (W : World) :
    (Instr.slice 23 (.slice A n c) (some (.int .i64 (z : Int))) none none).run Tryz.prog W = .ok (.slice (if c = z then A else A.map (fun x => x.add z)) (n - z) (c - z)) W := by
  obtain ⟨i0, hi, hz0, hz1, hz2⟩ := info_parts info_u8
  have he : Tryz.prog.elem 23 = 5 := by kernel_rfl
  have ht : Tryz.prog.underlying 23 = some (.slice (Tryz.prog.elem 23)) := by rw [he]; exact slice_u8
  rw [run_slice_l (ht := ht) (h0 := by omega) (h1 := by omega), he]
  simp [sizeOf, typeInfo, hi, hz1, sliced, go_sem]

set_option maxRecDepth 100000 in
set_option maxHeartbeats 6400000 in
theorem prog_yes (B : Nat) (x : Value) (a b : UInt8) (ys : List UInt8) (w : World) (hx : Byt w B x (a :: b :: ys)) (hB : B ≤ w.heap.size) (h : b.toNat = ys.length) (h2 : 2 ≤ ys.length) (h40 : ys.length ≤ 40) (hs : 0 ≤ smallB a) :
    Calls Tryz.prog 33 #[x] w fun e w' => ∃ v, e = .returned (.tuple #[.int .i64 (smallB a), v, .bool true]) ∧ OwnB w' w.heap.size v ys ∧ Below w.heap.size w w' := by
  have HX := Lib.hid hx
  obtain ⟨A, c, rfl, h1, hm, _, h4⟩ := hx
  obtain ⟨gb, o, rfl, hb, hc⟩ := h4 (by simp)
  have hcell1 : w.cell? ⟨gb, o + 1, none⟩ = some (.int .u8 (b.toNat : Int)) := hc 1 b rfl
  have hcell0 : w.cell? ⟨gb, o, none⟩ = some (.int .u8 (a.toNat : Int)) := hc 0 a rfl
  have htl : Byt w B (.slice (some ⟨gb, o + 2, none⟩) ys.length (c - 2)) ys := by
    refine ⟨_, _, rfl, by simp at h1; omega, by omega, (by intro h; cases h), fun _ => ⟨gb, o + 2, rfl, hb, fun j u hu => ?_⟩⟩
    have := hc (j + 2) u (by simpa using hu)
    rw [Nat.add_assoc, Nat.add_comm 2 j]
    exact this
  obtain ⟨n, hn⟩ : ∃ n, n = ys.length := ⟨_, rfl⟩
  have e : (a :: b :: ys).length = n + 2 := by simp [hn]
  rw [e] at h1 ⊢
  rw [← hn] at h h2 h40 htl
  unfold maxLen at hm
  have hsl : ∀ W, (Instr.slice 23 (.slice (some ⟨gb, o, none⟩) (n + 2) c) (some (.int .i64 2)) none none).run Tryz.prog W = .ok (.slice (some ⟨gb, o + 2, none⟩) n (c - 2)) W := fun W => by
    have := run_from (some ⟨gb, o, none⟩) (n + 2) c 2 (by omega) W
    rw [if_neg (by omega)] at this
    have hadd : (⟨gb, o, none⟩ : Addr).add 2 = ⟨gb, o + 2, none⟩ := by unfold Addr.add; split <;> simp_all
    rw [Option.map_some, hadd, Nat.add_sub_cancel] at this
    exact this
  have d1 : decide ((n : Int) + 2 < 4) = false := decide_eq_false (by omega)
  have d2 : decide ((42 : Int) < (n : Int) + 2) = false := decide_eq_false (by omega)
  have d3 : ((b.toNat : Int) != (n : Int)) = false := by simp [h]
  have d4 : decide (smallB a < 0) = false := decide_eq_false (by omega)
  have hpos : (0 : Int) < (n : Int) + 2 := by omega
  have hb256 := b.toNat_lt
  have hbw : gb < w.heap.size := by omega
  have HT := Lib.hid htl
  have HS := Lib.hid (fun W => small_any a W)
  have HN := Lib.hid hn
  have hs16 := (smallB_bd a).2
  obtain ⟨sv, hsv⟩ : ∃ sv, sv = smallB a := ⟨_, rfl⟩
  rw [← hsv] at HS d4 hs hs16 ⊢
  clear hc h4 e h hn htl hsv HX
  go_enter Tryz.func33, Tryz.ntmps33
  go_wp2_with fail
  refine (HS.out _).mono ?_
  rintro e w1 ⟨rfl, rfl⟩
  go_wp2_with fail
  refine wp_region_held_drew (S := (fun w' => w'.cell? ⟨gb, o, none⟩ = some (.int .u8 (a.toNat : Int)) ∧ Byt w' B (.slice (some ⟨gb, o + 2, none⟩) n (c - 2)) ys ∧ Below w.heap.size w w')) (by kernel_rfl) ?_ (fun hHeld => ?_)
  · exact ⟨hcell0, byt_drewN HT.out 1, (⟨rfl, rfl, rfl, Nat.le_refl _, fun _ _ => rfl⟩ : Below w.heap.size w w.drew)⟩
  refine wpAnyH_take (i := 0) (oi := { dst := some 30, op := Go.Op.move (Go.Operand.tmp 0), type := 23, pos := "form.go:103", after := #[], guard := none }) (v := ?av0) rfl (by kernel_rfl) (by kernel_rfl) (by kernel_rfl) (fun _ _ _ h => h) (Or.inl ⟨by rfl, ?ay0⟩) (by assumption) ?ar0
  case ay0 => (intro w hSw; (try dsimp only at hSw); go_simp; try (with_reducible rfl))
  case ar0 =>
  try simp only [Act.put, List.setIfInBounds_toArray, List.set_cons_zero, List.set_cons_succ]
  refine wpAnyH_take (i := 1) (oi := { dst := some 31, op := Go.Op.indexAddr 23 (Go.Operand.tmp 30) (Go.Operand.const (Go.Value.int Go.IntKind.i64 0)), type := 0, pos := "form.go:103", after := #[{ on := 0, ground := Go.Ground.data }], guard := none }) (v := ?av1) rfl (by kernel_rfl) (by kernel_rfl) (by kernel_rfl) (fun _ _ _ h => h) (Or.inl ⟨by rfl, ?ay1⟩) (by assumption) ?ar1
  case ay1 => (intro w hSw; (try dsimp only at hSw); go_simp; try (with_reducible rfl))
  case ar1 =>
  try simp only [Act.put, List.setIfInBounds_toArray, List.set_cons_zero, List.set_cons_succ]
  refine wpAnyH_take (i := 2) (oi := { dst := some 32, op := Go.Op.load 5 (Go.Operand.tmp 31), type := 5, pos := "form.go:103", after := #[{ on := 1, ground := Go.Ground.data }], guard := none }) (v := ?av2) rfl (by kernel_rfl) (by kernel_rfl) (by kernel_rfl) (fun _ _ _ h => h) (Or.inl ⟨by rfl, ?ay2⟩) (by assumption) ?ar2
  case ay2 => (intro w hSw; (try dsimp only at hSw); go_simp; try (with_reducible rfl))
  case ar2 =>
  try simp only [Act.put, List.setIfInBounds_toArray, List.set_cons_zero, List.set_cons_succ]
  refine wpAnyH_take (i := 4) (oi := { dst := some 34, op := Go.Op.move (Go.Operand.tmp 0), type := 23, pos := "form.go:103", after := #[], guard := none }) (v := ?av4) rfl (by kernel_rfl) (by kernel_rfl) (by kernel_rfl) (fun _ _ _ h => h) (Or.inl ⟨by rfl, ?ay4⟩) (by assumption) ?ar4
  case ay4 => (intro w hSw; (try dsimp only at hSw); go_simp; try (with_reducible rfl))
  case ar4 =>
  try simp only [Act.put, List.setIfInBounds_toArray, List.set_cons_zero, List.set_cons_succ]
  refine wpAnyH_take (i := 5) (oi := { dst := some 35, op := Go.Op.slice 23 (Go.Operand.tmp 34) (some (Go.Operand.const (Go.Value.int Go.IntKind.i64 2))) none none, type := 23, pos := "form.go:103", after := #[{ on := 4, ground := Go.Ground.data }], guard := none }) (v := ?av5) rfl (by kernel_rfl) (by kernel_rfl) (by kernel_rfl) (fun _ _ _ h => h) (Or.inl ⟨by rfl, ?ay5⟩) (by assumption) ?ar5
  case ay5 => (intro w hSw; (try dsimp only at hSw); go_simp; try (with_reducible rfl))
  case ar5 =>
  try simp only [Act.put, List.setIfInBounds_toArray, List.set_cons_zero, List.set_cons_succ]
  refine wpAnyH_ready (rs := [3]) (by kernel_rfl) (by simp) ?_
  refine AllReadyH.cons (o := { dst := some 33, op := Go.Op.call { callee := Go.Callee.value (Go.Operand.func 62), args := #[Go.Operand.tmp 32], argTypes := #[5] }, type := 3, pos := "form.go:103", after := #[{ on := 2, ground := Go.Ground.data }], guard := none }) rfl (fun K hK => ?_) (AllReadyH.nil)
  go_simp
  refine (HS.out _).mono ?_
  rintro e w4 ⟨rfl, rfl⟩
  go_simp
  refine hK.out _ _ ?_ (fun hHeld => ?_)
  · exact hHeld
  clear hK K
  try simp only [Act.put, List.setIfInBounds_toArray, List.set_cons_zero, List.set_cons_succ]
  refine wpAnyH_ready (rs := [6]) (by kernel_rfl) (by simp) ?_
  refine AllReadyH.cons (o := { dst := some 36, op := Go.Op.call { callee := Go.Callee.value (Go.Operand.func 40), args := #[Go.Operand.tmp 35], argTypes := #[23] }, type := 23, pos := "form.go:103", after := #[{ on := 5, ground := Go.Ground.data }, { on := 3, ground := Go.Ground.chain }], guard := none }) rfl (fun K hK => ?_) (AllReadyH.nil)
  go_simp
  refine (bclone_any B _ ys _ hHeld.2.1 (by have := HN.out; omega)).mono ?_
  intro e w6 hfr
  obtain ⟨u6, rfl, hown6, hb6⟩ := fresh_v hfr
  have HO := Lib.hid (own_base hown6 hHeld.2.2.size)
  go_simp
  refine hK.out _ _ ?_ (fun hHeld => ?_)
  · exact ⟨(hb6.cell (p := ⟨gb, o, none⟩) (by have := hHeld.2.2.size; show gb < _; omega)).trans hHeld.1, hHeld.2.1.below (hb6.mono (Nat.le_trans hB hHeld.2.2.size)), hHeld.2.2.trans (hb6.mono hHeld.2.2.size)⟩
  clear hK K
  try simp only [Act.put, List.setIfInBounds_toArray, List.set_cons_zero, List.set_cons_succ]
  refine wpAnyH_take (i := 7) (oi := { dst := some 2, op := Go.Op.assign (Go.Operand.tmp 33), type := 3, pos := "form.go:103", after := #[{ on := 3, ground := Go.Ground.data }, { on := 6, ground := Go.Ground.chain }, { on := 0, ground := Go.Ground.phase }, { on := 1, ground := Go.Ground.phase }, { on := 2, ground := Go.Ground.phase }, { on := 3, ground := Go.Ground.phase }, { on := 4, ground := Go.Ground.textOnly Go.Departure.lateStores }, { on := 5, ground := Go.Ground.textOnly Go.Departure.lateStoresUnsure }, { on := 6, ground := Go.Ground.textOnly Go.Departure.lateStoresUnsure }], guard := none }) (v := ?a_3_6v7) rfl (by kernel_rfl) (by kernel_rfl) (by kernel_rfl) (fun _ _ _ h => h) (Or.inl ⟨by rfl, ?a_3_6y7⟩) (by assumption) ?a_3_6r7
  case a_3_6y7 => (intro w hSw; (try dsimp only at hSw); go_simp; try (with_reducible rfl))
  case a_3_6r7 =>
  try simp only [Act.put, List.setIfInBounds_toArray, List.set_cons_zero, List.set_cons_succ]
  refine wpAnyH_take (i := 8) (oi := { dst := some 3, op := Go.Op.assign (Go.Operand.tmp 36), type := 23, pos := "form.go:103", after := #[{ on := 6, ground := Go.Ground.data }, { on := 7, ground := Go.Ground.chain }, { on := 0, ground := Go.Ground.phase }, { on := 1, ground := Go.Ground.phase }, { on := 2, ground := Go.Ground.phase }, { on := 3, ground := Go.Ground.phase }, { on := 4, ground := Go.Ground.phase }, { on := 5, ground := Go.Ground.phase }, { on := 6, ground := Go.Ground.phase }, { on := 7, ground := Go.Ground.phase }], guard := none }) (v := ?a_3_6v8) rfl (by kernel_rfl) (by kernel_rfl) (by kernel_rfl) (fun _ _ _ h => h) (Or.inl ⟨by rfl, ?a_3_6y8⟩) (by assumption) ?a_3_6r8
  case a_3_6y8 => (intro w hSw; (try dsimp only at hSw); go_simp; try (with_reducible rfl))
  case a_3_6r8 =>
  try simp only [Act.put, List.setIfInBounds_toArray, List.set_cons_zero, List.set_cons_succ]
  refine wpAnyH_take (i := 9) (oi := { dst := some 4, op := Go.Op.assign (Go.Operand.const (Go.Value.bool true)), type := 4, pos := "form.go:103", after := #[{ on := 8, ground := Go.Ground.chain }, { on := 0, ground := Go.Ground.phase }, { on := 1, ground := Go.Ground.phase }, { on := 2, ground := Go.Ground.phase }, { on := 3, ground := Go.Ground.phase }, { on := 4, ground := Go.Ground.phase }, { on := 5, ground := Go.Ground.phase }, { on := 6, ground := Go.Ground.phase }, { on := 7, ground := Go.Ground.phase }, { on := 8, ground := Go.Ground.phase }], guard := none }) (v := ?a_3_6v9) rfl (by kernel_rfl) (by kernel_rfl) (by kernel_rfl) (fun _ _ _ h => h) (Or.inl ⟨by rfl, ?a_3_6y9⟩) (by assumption) ?a_3_6r9
  case a_3_6y9 => (intro w hSw; (try dsimp only at hSw); go_simp; try (with_reducible rfl))
  case a_3_6r9 =>
  try simp only [Act.put, List.setIfInBounds_toArray, List.set_cons_zero, List.set_cons_succ]
  refine wpAnyH_done (by kernel_rfl) ?_ _
  have HF := Lib.hid hHeld.2.2
  go_wp2_with fail
  go_ret3
  exact ⟨_, rfl, HO.out, HF.out⟩
end Go.Proofs.YtocblkacdoahfaaGreatDoor.Sn
