/-
  fees: New and Forget. Conditions: names are of the two kinds that the laws use.
-/
import Derived.Test.YtfhpodeppmnopaaFeTal
import Derived.Test.YtfhpodeppmnopaaOp
import Derived.Carry
namespace Go.Proofs.Ytfhpodeppmnopaa
open Go.RowKit

def zRow : List Value := List.replicate 312 (.int .i64 0) ++ [.map none]
set_option maxRecDepth 100000 in
theorem zero_book (W : World) : (zeroValue 59).run Try.prog W = .ok (.agg zRow.toArray) W := by kernel_rfl
theorem zRow_len : zRow.length = 313 := by unfold zRow; rw [List.length_append, List.length_replicate]; rfl
theorem zRow_map : zRow[312]? = some (.map none) := by unfold zRow; rw [List.getElem?_append_right (by rw [List.length_replicate]; omega), List.length_replicate]; rfl
theorem cnt_zero : Cnt zRow (fun _ => 0) (fun _ _ => 0) := by
  refine ⟨zRow_len, fun k hk => ?_, fun k t hk ht => ?_⟩
  · unfold zRow
    rw [List.getElem?_append_left (by rw [List.length_replicate]; omega), List.getElem?_replicate, if_pos (by omega)]
  · unfold zRow
    rw [List.getElem?_append_left (by rw [List.length_replicate]; omega), List.getElem?_replicate, if_pos (by omega)]

set_option maxRecDepth 100000 in
set_option maxHeartbeats 1600000 in
theorem new_any (c : Nat) (w : World) :
    Calls Try.prog 10 #[] w fun e w' => e = .returned (.pointer (some ⟨w.heap.size, 0, none⟩)) ∧ BookAt w' c w.heap.size none bs0 ∧ Below w.heap.size w w' := by
  have hz := zero_book
  have hl := zRow_len
  have hn : VRow (w.alloc (.cells zRow.toArray 59)) w.heap.size 59 zRow := VRow.new w _ _
  have hc := cnt_zero
  have hm := zRow_map
  generalize zRow = Z at *
  have HB : BookAt (w.alloc (.cells Z.toArray 59)) c w.heap.size none bs0 := ⟨⟨Z, hn, hc, hm⟩, rfl⟩
  have H := Lib.hid HB
  clear HB hn hc hm
  go_enter Try.func10, Try.ntmps10
  go_wp2
  go_ret
  exact ⟨rfl, H.out, (Below.refl _ w).alloc (Nat.le_refl _) _⟩

theorem irow_range0 {w : World} {g : Nat} {t : TypeId} {k : IntKind} {xs : List Int} (h : IRow w g t k xs) : w.rangeAt g 0 (xs.map (Value.int k)) := fun j v hv => by
  rw [List.getElem?_map] at hv
  cases hx : xs[j]? with
  | none => rw [hx] at hv; cases hv
  | some z =>
    rw [hx] at hv
    rw [← Option.some.inj hv, Nat.zero_add]
    exact h.cell hx
theorem irow_not_map {w : World} {g : Nat} {t : TypeId} {k : IntKind} {xs : List Int} (h : IRow w g t k xs) {c : Nat} {m : Option Nat} {W : List Ent} (hm : MapAt w c m W) : m ≠ some g := by
  rintro rfl
  obtain ⟨es, clock, hb, _⟩ := hm
  have h1' : w.heap[g]? = _ := h
  rw [hb] at h1'
  cases h1'
theorem forget_book {w : World} {c g id : Nat} {m : Option Nat} {S : Bs} (h1 : CntAt w g m S.A S.I) (h2 : MapAt w c m (match fIdx S.W id with | none => S.W | some i => S.W.eraseIdx i)) : BookAt w c g m (forgetF S id) := by
  unfold forgetF
  cases hf : fIdx S.W id with
  | none => rw [hf] at h2; exact ⟨h1, h2⟩
  | some i => rw [hf] at h2; exact ⟨h1, h2⟩
theorem size_hash (K : List Int) (h : K.length = 32) : (Try.prog.info? 45).map (·.size) = some (K.map (Value.int .u8)).length := by
  rw [List.length_map, h]
  kernel_rfl

set_option maxRecDepth 100000 in
set_option maxHeartbeats 3200000 in
theorem forget_any (c g id : Nat) (m : Option Nat) (S : Bs) (w : World) (hc : COk c) (hid : id < 256) (h : BookAt w c g m S) (hW : Wids S.W) (hnd : S.W.Pairwise (fun e e' => e.id ≠ e'.id)) :
    Calls Try.prog 20 #[.pointer (some ⟨g, 0, none⟩), nmV c id] w fun e w' => e = .returned (.tuple #[]) ∧ BookAt w' c g m (forgetF S id) ∧ Turns (fun i => m = some i) w w' := by
  have hgm := h.1.not_map h.2
  have hgl := h.1.lt
  unfold nmV
  have hr := IRow.new w 45 .u8 (nmI c id)
  have t1 : Turns (fun i => m = some i) w ((w.alloc (.cells ((nmI c id).map (Value.int .u8)).toArray 45)).drew) := ((Turns.refl _ w).alloc _).drew
  have hbk : BookAt ((w.alloc (.cells ((nmI c id).map (Value.int .u8)).toArray 45)).drew) c g m S := h.below ((Below.refl _ w).alloc (Nat.le_refl _) _ |>.drew)
  have hd := fun ty => hbk.2.del hc hW hnd ty hid
  have hi := size_hash (nmI c id) rfl
  unfold nmV at hd
  obtain ⟨K, hK⟩ : ∃ K, K = nmI c id := ⟨_, rfl⟩
  rw [← hK] at hr t1 hd hi hbk ⊢
  obtain ⟨w1, hw1⟩ : ∃ z, z = (w.alloc (.cells (K.map (Value.int .u8)).toArray 45)) := ⟨_, rfl⟩
  obtain ⟨G, hG⟩ : ∃ z, z = w.heap.size := ⟨_, rfl⟩
  rw [← hG, ← hw1] at hr
  rw [← hw1] at t1 hd hbk
  have c0 := hbk.1.map
  have c1 : w1.drew.cell? ⟨g, 312, none⟩ = some (.map m) := c0
  have R1 := Lib.hid hr
  have T1 := Lib.hid t1
  have HBK := Lib.hid hbk
  have HD := Lib.hid hd
  have HI := Lib.hid hi
  have HW1 := Lib.hid hw1
  have HG := Lib.hid hG
  have HH := Lib.hid h
  have HGM := Lib.hid hgm
  clear hr t1 hd hi hw1 hK h hW hnd hid hbk hG hgm hgl c0
  go_enter Try.func20, Try.ntmps20
  go_upto_region 1 with fail
  change Code.wp _ _ _ _ (w.alloc (.cells (K.map (Value.int .u8)).toArray 45))
  rw [← HW1.out, show w.heap.size = G from HG.out.symm]
  clear HW1
  try dsimp only [Act.put]
  refine wp_region_held_drew (S := (fun w' => w'.cell? ⟨g, 312, none⟩ = some (.map m) ∧ IRow w' G 45 .u8 K)) (by kernel_rfl) ?_ (fun hHeld => ?_)
  · exact ⟨c1, R1.out.drew⟩
  refine wpAnyH_take (i := 0) (oi := { dst := some 4, op := Go.Op.move (Go.Operand.tmp 0), type := 24, pos := "fees.go:59", after := #[], guard := none }) (v := ?av0) rfl (by kernel_rfl) (by kernel_rfl) (by kernel_rfl) (fun _ _ _ h => h) (Or.inl ⟨by rfl, ?ay0⟩) (by assumption) ?ar0
  case ay0 => (intro w hSw; (try dsimp only at hSw); go_simp; try (with_reducible rfl))
  case ar0 =>
  try simp only [Act.put, List.setIfInBounds_toArray, List.set_cons_zero, List.set_cons_succ]
  refine wpAnyH_take (i := 1) (oi := { dst := some 5, op := Go.Op.nilCheck (Go.Operand.tmp 4), type := 0, pos := "fees.go:59", after := #[{ on := 0, ground := Go.Ground.data }], guard := none }) (v := ?av1) rfl (by kernel_rfl) (by kernel_rfl) (by kernel_rfl) (fun _ _ _ h => h) (Or.inl ⟨by rfl, ?ay1⟩) (by assumption) ?ar1
  case ay1 => (intro w hSw; (try dsimp only at hSw); go_simp; try (with_reducible rfl))
  case ar1 =>
  try simp only [Act.put, List.setIfInBounds_toArray, List.set_cons_zero, List.set_cons_succ]
  refine wpAnyH_take (i := 2) (oi := { dst := some 6, op := Go.Op.fieldAddr 59 (Go.Operand.tmp 5) 1, type := 0, pos := "fees.go:59", after := #[{ on := 1, ground := Go.Ground.data }], guard := none }) (v := ?av2) rfl (by kernel_rfl) (by kernel_rfl) (by kernel_rfl) (fun _ _ _ h => h) (Or.inl ⟨by rfl, ?ay2⟩) (by assumption) ?ar2
  case ay2 => (intro w hSw; (try dsimp only at hSw); go_simp; try (with_reducible rfl))
  case ar2 =>
  try simp only [Act.put, List.setIfInBounds_toArray, List.set_cons_zero, List.set_cons_succ]
  refine wpAnyH_take (i := 3) (oi := { dst := some 7, op := Go.Op.load 57 (Go.Operand.tmp 6), type := 57, pos := "fees.go:59", after := #[{ on := 2, ground := Go.Ground.data }], guard := none }) (v := (.map m)) rfl (by kernel_rfl) (by kernel_rfl) (by kernel_rfl) (fun _ _ _ h => h) (Or.inl ⟨by rfl, ?ay3⟩) (by assumption) ?ar3
  case ay3 => (intro w hSw; (try dsimp only at hSw); go_simp; try (simp [hSw.1]))
  case ar3 =>
  try simp only [Act.put, List.setIfInBounds_toArray, List.set_cons_zero, List.set_cons_succ]
  refine wpAnyH_take (i := 4) (oi := { dst := some 8, op := Go.Op.load 45 (Go.Operand.tmp 3), type := 45, pos := "fees.go:59", after := #[], guard := none }) (v := (.agg (K.map (Value.int .u8)).toArray)) rfl (by kernel_rfl) (by kernel_rfl) (by kernel_rfl) (fun _ _ _ h => h) (yieldsIf_load_mid (by rfl) 45 (.tmp 3) rfl G 0 rfl (K.map (Value.int .u8)) _ (fun w' h => irow_range0 h.2) Try.underlying45 rfl HI.out) (by assumption) ?_
  try simp only [Act.put, List.setIfInBounds_toArray, List.set_cons_zero, List.set_cons_succ]
  refine wpAnyH_ready (rs := [5]) (by kernel_rfl) (by simp) ?_
  refine AllReadyH.cons (o := { dst := none, op := Go.Op.call { callee := Go.Callee.builtin Go.Builtin.delete, args := #[Go.Operand.tmp 7, Go.Operand.tmp 8], argTypes := #[57, 45] }, type := 0, pos := "fees.go:59", after := #[{ on := 3, ground := Go.Ground.data }, { on := 4, ground := Go.Ground.data }], guard := none }) rfl (fun K hK => ?_) (AllReadyH.nil)
  obtain ⟨w3, hr3, hm3, ht3⟩ := HD.out 0
  go_simp
  refine hK.out _ _ ?_ (fun hHeld => ?_)
  · exact ⟨(HBK.out.1.turns ht3 HGM.out).map, R1.out.drew.turns ht3 (irow_not_map R1.out.drew HBK.out.2)⟩
  clear hK K
  try simp only [Act.put]
  refine wpAnyH_done (by kernel_rfl) ?_ _
  exact bodyPost_end (results_none Try.results20 _ _ _) rfl ⟨rfl, forget_book (HBK.out.1.turns ht3 HGM.out) hm3, T1.out.trans ht3 (fun _ _ q => q)⟩
end Go.Proofs.Ytfhpodeppmnopaa
