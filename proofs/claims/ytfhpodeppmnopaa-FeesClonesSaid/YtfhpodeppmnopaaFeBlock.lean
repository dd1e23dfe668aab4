/-
  fees: Block. Conditions: names are of the two kinds that the laws use; a million entries at most.
-/
import Derived.Test.YtfhpodeppmnopaaFeEnter
namespace Go.Proofs.Ytfhpodeppmnopaa
open Go.RowKit

/-- A slice of names, in a block that is none of X. -/
def NmS (w : World) (c : Nat) (v : Value) (ids : List Nat) (X : Nat → Prop) : Prop :=
  ∃ A cap, v = .slice A ids.length cap ∧ ids.length ≤ cap ∧ cap ≤ 9223372036854775807 ∧ (ids ≠ [] → ∃ b o, A = some ⟨b, o, none⟩ ∧ b < w.heap.size ∧ ¬ X b ∧ ∀ i id, ids[i]? = some id → w.rangeAt b (o + i * 32) ((nmI c id).map (Value.int .u8)))
theorem NmS.at {w w' : World} {c : Nat} {A : Option Addr} {n cap : Nat} {ids : List Nat} {X : Nat → Prop} (h : NmS w c (.slice A n cap) ids X) (ht : Turns X w w') {i id : Nat} (hi : ids[i]? = some id) :
    ∃ b o, A = some ⟨b, o, none⟩ ∧ w'.rangeAt b (o + i * 32) ((nmI c id).map (Value.int .u8)) := by
  obtain ⟨A', cap', e, _, _, h2⟩ := h
  injection e with e1 e2 e3
  subst e1
  obtain ⟨b, o, hA, hb, hx, hr⟩ := h2 (by rintro rfl; simp at hi)
  exact ⟨b, o, hA, fun j v hv => (ht.cell (p := ⟨b, _, none⟩) hb hx).trans (hr i id hi j v hv)⟩
theorem zero_hash (W : World) : (zeroValue 45).run Try.prog W = .ok (.agg ((List.replicate 32 (0 : Int)).map (Value.int .u8)).toArray) W := by kernel_rfl

/-- What the shrinking loop has done behind k rounds. -/
def shrA (S : Bs) (k : Nat) : Nat → Int := fun j => if j < k then S.A j * 998 / 1000 else S.A j
def shrI (S : Bs) (k : Nat) : Nat → Nat → Int := fun j t => if j < k then S.I j t * 998 / 1000 else S.I j t
theorem shrA_next (S : Bs) (k j : Nat) : (if j = k then shrA S k j * 998 / 1000 else shrA S k j) = shrA S (k + 1) j := by
  unfold shrA
  by_cases e : j = k
  · subst e
    rw [if_pos rfl, if_neg (by omega), if_pos (by omega)]
  · rw [if_neg e]
    by_cases e2 : j < k
    · rw [if_pos e2, if_pos (by omega)]
    · rw [if_neg e2, if_neg (by omega)]
theorem shrI_next (S : Bs) (k j t : Nat) : (if j = k then shrI S k j t * 998 / 1000 else shrI S k j t) = shrI S (k + 1) j t := by
  unfold shrI
  by_cases e : j = k
  · subst e
    rw [if_pos rfl, if_neg (by omega), if_pos (by omega)]
  · rw [if_neg e]
    by_cases e2 : j < k
    · rw [if_pos e2, if_pos (by omega)]
    · rw [if_neg e2, if_neg (by omega)]
theorem folds_next (h : Int) (T : Bs) {ids : List Nat} {i id : Nat} (hi : ids[i]? = some id) : (ids.take (i + 1)).foldl (oneF h) T = oneF h ((ids.take i).foldl (oneF h) T) id := by
  rw [List.take_add_one, hi, List.foldl_append]
  rfl
theorem irow_setRow_new {w : World} {t : TypeId} {k : IntKind} {xs ys : List Int} : IRow ((w.alloc (.cells (xs.map (Value.int k)).toArray t)).setRow w.heap.size (ys.map (Value.int k)).toArray) w.heap.size t k ys := setRow_irow (IRow.new w t k xs)
theorem Turns.ofBelow {S : Nat → Prop} {a w : World} (h : Below a.heap.size a w) : Turns S a w := Turns.of_below h

theorem meas_next {n i : Nat} (hi : i < n) (e : wrap64 ((i : Int) + 1) = (i : Int) + 1) : n - (intOf (.int .i64 (wrap64 ((i : Int) + 1)))).toNat < n - (intOf (.int .i64 (i : Int))).toNat := by
  rw [e]
  simp [intOf]
  omega

set_option maxRecDepth 100000 in
set_option maxHeartbeats 6400000 in
theorem block_any (c g n : Nat) (m : Option Nat) (S : Bs) (ht : Int) (v : Value) (ids : List Nat) (w : World) (hc : COk c) (hids : ∀ id ∈ ids, id < 256) (h : BookAt w c g m S) (hS : Ok n S) (hn : n ≤ 1000000)
    (hv : NmS w c v ids (fun i => i = g ∨ m = some i)) (g0 : -9223372036854775808 ≤ ht) (g1 : ht ≤ 9223372036854775807) :
    Calls Try.prog 13 #[.pointer (some ⟨g, 0, none⟩), .int .i64 ht, v] w fun e w' => e = .returned (.tuple #[]) ∧ BookAt w' c g m (blockF S ht ids) ∧ Turns (fun i => i = g ∨ m = some i) w w' := by
  have hgm := h.1.not_map h.2
  obtain ⟨A, cap, hvA, hvl, hvc, _⟩ := id hv
  subst hvA
  have hnI : (n : Int) ≤ 1000000 := by omega
  have H := Lib.hid h
  have HV := Lib.hid hv
  have HGM := Lib.hid hgm
  have HS := Lib.hid hS
  have HID := Lib.hid hids
  have HVL := Lib.hid hvl
  clear h hv hgm hS hids hvl
  go_enter Try.func13, Try.ntmps13
  go_wp2_with fail
  go_loopw [11] (fun s wr => ∃ k : Nat, k ≤ 24 ∧ s = .int .i64 k ∧ CntAt wr g m (shrA S k) (shrI S k) ∧ Turns (fun i => i = g) w wr) (fun s _ => 24 - (intOf s).toNat)
  case atStart => exact ⟨0, Nat.zero_le _, rfl, H.out.1.congr (fun j _ => by simp [shrA]) (fun j t _ _ => by simp [shrI]), Turns.refl _ _⟩
  case round =>
    obtain ⟨k, hk, rfl, hcn, htn⟩ := hrel
    by_cases hlt : k < 24
    · have eA : shrA S k k = S.A k := by unfold shrA; rw [if_neg (by omega)]
      have eI : ∀ t, shrI S k k t = S.I k t := fun t => by unfold shrI; rw [if_neg (by omega)]
      have hsh := shrink_any g k m (shrA S k) (shrI S k) wr hlt hcn (by rw [eA]; exact HS.out.a0 k hlt) (by rw [eA]; have := HS.out.a2 hlt; omega) (fun t ht => by rw [eI]; exact HS.out.i0 k t hlt ht) (fun t ht => by rw [eI]; have := HS.out.i2 hlt ht; omega)
      have HSH := Lib.hid hsh
      have HTN := Lib.hid htn
      have dk : decide ((k : Int) < 24) = true := decide_eq_true (by omega)
      clear hsh hcn htn eA eI
      go_wp2_with fail
      refine HSH.out.mono ?_
      rintro e w2 ⟨rfl, hc2, ht2⟩
      have HC2 := Lib.hid (hc2.congr (fun j _ => shrA_next S k j) (fun j t _ _ => shrI_next S k j t))
      have HT2 := Lib.hid (HTN.out.trans ht2 (fun _ _ q => q))
      clear hc2 ht2
      go_wp2_with fail
      exact ⟨⟨k + 1, by omega, by go_num, HC2.out, HT2.out⟩, by simp [intOf]; omega⟩
    · have dk : decide ((k : Int) < 24) = false := decide_eq_false (by omega)
      have hbk : BookAt wr c g m (shrF S) := ⟨hcn.congr (fun j hj => by unfold shrA; rw [if_pos (by omega)]; rfl) (fun j t hj _ => by unfold shrI; rw [if_pos (by omega)]; rfl), H.out.2.turns (S := fun i => i = g) htn (fun b hb q => HGM.out (by rw [hb, q]))⟩
      have htw : Turns (fun i => i = g ∨ m = some i) w wr := htn.mono (fun i _ q => .inl q)
      have HBK := Lib.hid hbk
      have HTW := Lib.hid htw
      clear hcn htn hbk htw hk hlt
      go_wp2_with fail
      go_loopw [23] (fun s wr2 => ∃ i : Nat, i ≤ ids.length ∧ s = .int .i64 i ∧ BookAt wr2 c g m ((ids.take i).foldl (oneF ht) (shrF S)) ∧ Turns (fun i => i = g ∨ m = some i) w wr2) (fun s _ => ids.length - (intOf s).toNat)
      case atStart => exact ⟨0, Nat.zero_le _, rfl, HBK.out, HTW.out⟩
      case round =>
        obtain ⟨i, hi, rfl, hb2, ht2⟩ := hrel
        by_cases hlt2 : i < ids.length
        · obtain ⟨id, hid⟩ : ∃ id, ids[i]? = some id := ⟨_, List.getElem?_eq_getElem hlt2⟩
          have hidl := HID.out id (List.mem_of_getElem? hid)
          obtain ⟨b, o, rfl, hrg⟩ := HV.out.at ht2 hid
          have hz := zero_hash
          have ewi : wrap64 ((i : Int) + 1) = (i : Int) + 1 := by have := HVL.out; unfold wrap64; omega
          have hi32 := size_hash (nmI c id) rfl
          have hz32 := size_hash (List.replicate 32 (0 : Int)) (by simp)
          obtain ⟨T, hT⟩ : ∃ T, T = (ids.take i).foldl (oneF ht) (shrF S) := ⟨_, rfl⟩
          have hnx := folds_next ht (shrF S) hid
          rw [← hT] at hb2 hnx
          have hOk : Ok n T := by rw [hT]; exact Ok.ones ht _ HS.out.shr
          have hkv : ∀ K, K = nmI c id → nmV c id = .agg (K.map (Value.int .u8)).toArray := fun K e => by rw [e]; rfl
          obtain ⟨K, hK⟩ : ∃ K, K = nmI c id := ⟨_, rfl⟩
          have hkv' := hkv K hK
          have hKl : K.length = 32 := by rw [hK]; rfl
          rw [← hK] at hrg hi32
          obtain ⟨ZZ, hZZ⟩ : ∃ ZZ, ZZ = (List.replicate 32 (0 : Int)) := ⟨_, rfl⟩
          have hZl : ZZ.length = 32 := by rw [hZZ]; simp
          rw [← hZZ] at hz32
          rw [← hZZ] at hz
          have HID2 := Lib.hid hid
          have HRG := Lib.hid hrg
          have HI32 := Lib.hid hi32
          have HZ32 := Lib.hid hz32
          have HB2 := Lib.hid hb2
          have HT2 := Lib.hid ht2
          have HNX := Lib.hid hnx
          have HOK := Lib.hid hOk
          have HKV := Lib.hid hkv'
          have HKL := Lib.hid hKl
          have HZL := Lib.hid hZl
          clear hid hrg hi32 hz32 hb2 ht2 hT hnx hOk hkv hkv' hK hKl hZZ hZl
          go_upto_region 8 with (first
            | (refine wpList_load_mid rfl 45 _ rfl b (o + i * 32) rfl (K.map (Value.int .u8)) _ HRG.out Try.underlying45 rfl HI32.out ?_)
            | (refine wpList_store_irow rfl 45 _ _ rfl (ys := K) rfl rfl (IRow.new _ _ _ ZZ) (by rw [← List.length_map (f := Value.int .u8)]; exact HI32.out) (by rw [HZL.out, HKL.out]) ?_))
          change Code.wp _ _ _ _ ((wr.alloc (.cells (ZZ.map (Value.int .u8)).toArray 45)).setRow wr.heap.size (K.map (Value.int .u8)).toArray)
          have hr1 : IRow ((wr.alloc (.cells (ZZ.map (Value.int .u8)).toArray 45)).setRow wr.heap.size (K.map (Value.int .u8)).toArray) wr.heap.size 45 .u8 K := irow_setRow_new
          have b1 : Below wr.heap.size wr ((wr.alloc (.cells (ZZ.map (Value.int .u8)).toArray 45)).setRow wr.heap.size (K.map (Value.int .u8)).toArray) := below_setRow ((Below.refl _ wr).alloc (Nat.le_refl _) _) (Nat.le_refl _) _
          have hs1 : ((wr.alloc (.cells (ZZ.map (Value.int .u8)).toArray 45)).setRow wr.heap.size (K.map (Value.int .u8)).toArray).heap.size = wr.heap.size + 1 := by simp [World.setRow]
          obtain ⟨w1, hw1⟩ : ∃ z, z = ((wr.alloc (.cells (ZZ.map (Value.int .u8)).toArray 45)).setRow wr.heap.size (K.map (Value.int .u8)).toArray) := ⟨_, rfl⟩
          obtain ⟨G, hG⟩ : ∃ z, z = wr.heap.size := ⟨_, rfl⟩
          rw [← hw1] at hr1 b1 hs1 ⊢
          rw [← hG] at hr1 hs1 ⊢
          have hbk1 : BookAt w1 c g m T := HB2.out.below b1
          have ht1 : Turns (fun i => i = g ∨ m = some i) w w1 := HT2.out.trans (Turns.of_below (S := fun _ => False) b1) (fun _ _ q => q.elim)
          have hen : EnS c g G m K T.W w1 := ⟨hbk1.1.map, hr1, hbk1.2⟩
          have HEN := Lib.hid hen
          have HBK1 := Lib.hid hbk1
          have HT1 := Lib.hid ht1
          have HS1 := Lib.hid hs1
          have hW : Wids T.W := fun e he => (HOK.out.bk e he).2.1
          have hnd := HOK.out.nd
          clear hr1 b1 hs1 hw1 hG hbk1 ht1 hen hz
          try dsimp only [Act.put]
          cases hf : fIdx T.W id with
          | none =>
            as_aux_lemma =>
            have hlk : ∀ W', MapAt W' c m T.W → (Instr.lookup 57 (.map m) (.agg (K.map (Value.int .u8)).toArray) true).run Try.prog W' = .ok (.tuple #[wtV ⟨0, 0, 0⟩, .bool false]) W' := fun W' hM => by
              rw [← HKV.out]
              exact hM.look_none hc hW hnd hidl hf
            unfold wtV at hlk
            have HLK := Lib.hid hlk
            have eF : oneF ht T id = T := by unfold oneF; rw [hf]
            have HEF := Lib.hid eF
            clear hlk hW hnd hf eF
            refine wp_region_held_drew (S := (EnS c g G m K T.W)) (by kernel_rfl) ?_ (fun hHeld => ?_)
            · exact HEN.out.drew
            refine wpAnyH_take (i := 0) (oi := { dst := some 28, op := Go.Op.move (Go.Operand.tmp 0), type := 24, pos := "fees.go:67", after := #[], guard := none }) (v := ?av0) rfl (by kernel_rfl) (by kernel_rfl) (by kernel_rfl) (fun _ _ _ h => h) (Or.inl ⟨by rfl, ?ay0⟩) (by assumption) ?ar0
            case ay0 => (intro w hSw; (try dsimp only at hSw); go_simp; try (with_reducible rfl))
            case ar0 =>
            try simp only [Act.put, List.setIfInBounds_toArray, List.set_cons_zero, List.set_cons_succ]
            refine wpAnyH_take (i := 1) (oi := { dst := some 29, op := Go.Op.nilCheck (Go.Operand.tmp 28), type := 0, pos := "fees.go:67", after := #[{ on := 0, ground := Go.Ground.data }], guard := none }) (v := ?av1) rfl (by kernel_rfl) (by kernel_rfl) (by kernel_rfl) (fun _ _ _ h => h) (Or.inl ⟨by rfl, ?ay1⟩) (by assumption) ?ar1
            case ay1 => (intro w hSw; (try dsimp only at hSw); go_simp; try (with_reducible rfl))
            case ar1 =>
            try simp only [Act.put, List.setIfInBounds_toArray, List.set_cons_zero, List.set_cons_succ]
            refine wpAnyH_take (i := 2) (oi := { dst := some 30, op := Go.Op.fieldAddr 59 (Go.Operand.tmp 29) 1, type := 0, pos := "fees.go:67", after := #[{ on := 1, ground := Go.Ground.data }], guard := none }) (v := ?av2) rfl (by kernel_rfl) (by kernel_rfl) (by kernel_rfl) (fun _ _ _ h => h) (Or.inl ⟨by rfl, ?ay2⟩) (by assumption) ?ar2
            case ay2 => (intro w hSw; (try dsimp only at hSw); go_simp; try (with_reducible rfl))
            case ar2 =>
            try simp only [Act.put, List.setIfInBounds_toArray, List.set_cons_zero, List.set_cons_succ]
            refine wpAnyH_take (i := 3) (oi := { dst := some 31, op := Go.Op.load 57 (Go.Operand.tmp 30), type := 57, pos := "fees.go:67", after := #[{ on := 2, ground := Go.Ground.data }], guard := none }) (v := (.map m)) rfl (by kernel_rfl) (by kernel_rfl) (by kernel_rfl) (fun _ _ _ h => h) (Or.inl ⟨by rfl, ?ay3⟩) (by assumption) ?ar3
            case ay3 => (intro w hSw; (try dsimp only at hSw); go_simp; try (simp [hSw.1]))
            case ar3 =>
            try simp only [Act.put, List.setIfInBounds_toArray, List.set_cons_zero, List.set_cons_succ]
            refine wpAnyH_take (i := 4) (oi := { dst := some 32, op := Go.Op.load 45 (Go.Operand.tmp 8), type := 45, pos := "fees.go:67", after := #[], guard := none }) (v := (.agg (K.map (Value.int .u8)).toArray)) rfl (by kernel_rfl) (by kernel_rfl) (by kernel_rfl) (fun _ _ _ h => h) (yieldsIf_load_mid (by rfl) 45 (.tmp 8) rfl G 0 rfl (K.map (Value.int .u8)) _ (fun w' h => irow_range0 h.2.1) Try.underlying45 rfl HI32.out) (by assumption) ?_
            try simp only [Act.put, List.setIfInBounds_toArray, List.set_cons_zero, List.set_cons_succ]
            refine wpAnyH_take (i := 5) (oi := { dst := some 33, op := Go.Op.lookup 57 (Go.Operand.tmp 31) (Go.Operand.tmp 32) true, type := 70, pos := "fees.go:67", after := #[{ on := 3, ground := Go.Ground.data }, { on := 4, ground := Go.Ground.data }], guard := none }) (v := (.tuple #[.agg #[.int .i64 ((0 : Nat) : Int), .int .i64 0], .bool false])) rfl (by kernel_rfl) (by kernel_rfl) (by kernel_rfl) (fun _ _ _ h => h) (yieldsIf_lookup (by rfl) 57 (.tmp 31) (.tmp 32) rfl _ _ _ rfl rfl (fun w' h => HLK.out w' h.2.2)) (by assumption) ?_
            try simp only [Act.put, List.setIfInBounds_toArray, List.set_cons_zero, List.set_cons_succ]
            refine wpAnyH_take (i := 6) (oi := { dst := some 27, op := Go.Op.move (Go.Operand.tmp 33), type := 70, pos := "fees.go:67", after := #[{ on := 5, ground := Go.Ground.data }], guard := none }) (v := ?av6) rfl (by kernel_rfl) (by kernel_rfl) (by kernel_rfl) (fun _ _ _ h => h) (Or.inl ⟨by rfl, ?ay6⟩) (by assumption) ?ar6
            case ay6 => (intro w hSw; (try dsimp only at hSw); go_simp; try (with_reducible rfl))
            case ar6 =>
            try simp only [Act.put, List.setIfInBounds_toArray, List.set_cons_zero, List.set_cons_succ]
            refine wpAnyH_take (i := 7) (oi := { dst := some 34, op := Go.Op.extract (Go.Operand.tmp 27) 0, type := 62, pos := "fees.go:67", after := #[{ on := 6, ground := Go.Ground.data }], guard := none }) (v := ?av7) rfl (by kernel_rfl) (by kernel_rfl) (by kernel_rfl) (fun _ _ _ h => h) (Or.inl ⟨by rfl, ?ay7⟩) (by assumption) ?ar7
            case ay7 => (intro w hSw; (try dsimp only at hSw); go_simp; try (with_reducible rfl))
            case ar7 =>
            try simp only [Act.put, List.setIfInBounds_toArray, List.set_cons_zero, List.set_cons_succ]
            refine wpAnyH_take (i := 8) (oi := { dst := some 35, op := Go.Op.extract (Go.Operand.tmp 27) 1, type := 4, pos := "fees.go:67", after := #[{ on := 6, ground := Go.Ground.data }, { on := 10, ground := Go.Ground.gcOnly Go.Departure.lateStores }], guard := none }) (v := ?av8) rfl (by kernel_rfl) (by kernel_rfl) (by kernel_rfl) (fun _ _ _ h => h) (Or.inl ⟨by rfl, ?ay8⟩) (by assumption) ?ar8
            case ay8 => (intro w hSw; (try dsimp only at hSw); go_simp; try (with_reducible rfl))
            case ar8 =>
            try simp only [Act.put, List.setIfInBounds_toArray, List.set_cons_zero, List.set_cons_succ]
            refine wpAnyH_ready (rs := [9]) (by kernel_rfl) (by simp) ?_
            refine AllReadyH.cons (o := { dst := some 9, op := Go.Op.alloc 62, type := 0, pos := "fees.go:67", after := #[], guard := none }) rfl (fun K hK => ?_) (AllReadyH.nil)
            go_simp
            refine hK.out _ _ ?_ (fun hHeld => ?_)
            · exact (HEN.out.alloc _).drew
            clear hK K
            try simp only [Act.put, List.setIfInBounds_toArray, List.set_cons_zero, List.set_cons_succ]
            refine wpAnyH_ready (rs := [10]) (by kernel_rfl) (by simp) ?_
            refine AllReadyH.cons (o := { dst := none, op := Go.Op.store 62 (Go.Operand.tmp 9) (Go.Operand.tmp 34), type := 0, pos := "fees.go:67", after := #[{ on := 9, ground := Go.Ground.data }, { on := 7, ground := Go.Ground.data }, { on := 0, ground := Go.Ground.phase }, { on := 1, ground := Go.Ground.phase }, { on := 2, ground := Go.Ground.phase }, { on := 3, ground := Go.Ground.phase }, { on := 4, ground := Go.Ground.phase }, { on := 5, ground := Go.Ground.phase }, { on := 6, ground := Go.Ground.phase }, { on := 7, ground := Go.Ground.phase }, { on := 8, ground := Go.Ground.textOnly Go.Departure.lateStores }, { on := 9, ground := Go.Ground.phase }], guard := none }) rfl (fun K hK => ?_) (AllReadyH.nil)
            go_simp
            refine hK.out _ _ ?_ (fun hHeld => ?_)
            · exact (HEN.out.alloc _).drew
            clear hK K
            try simp only [Act.put]
            refine wpAnyH_take (i := 11) (oi := { dst := some 10, op := Go.Op.assign (Go.Operand.tmp 35), type := 4, pos := "fees.go:67", after := #[{ on := 8, ground := Go.Ground.data }, { on := 10, ground := Go.Ground.chain }, { on := 0, ground := Go.Ground.phase }, { on := 1, ground := Go.Ground.phase }, { on := 2, ground := Go.Ground.phase }, { on := 3, ground := Go.Ground.phase }, { on := 4, ground := Go.Ground.phase }, { on := 5, ground := Go.Ground.phase }, { on := 6, ground := Go.Ground.phase }, { on := 7, ground := Go.Ground.phase }, { on := 8, ground := Go.Ground.phase }, { on := 9, ground := Go.Ground.phase }, { on := 10, ground := Go.Ground.phase }], guard := none }) (v := ?a_9_10v11) rfl (by kernel_rfl) (by kernel_rfl) (by kernel_rfl) (fun _ _ _ h => h) (Or.inl ⟨by rfl, ?a_9_10y11⟩) (by assumption) ?a_9_10r11
            case a_9_10y11 => (intro w hSw; (try dsimp only at hSw); go_simp; try (with_reducible rfl))
            case a_9_10r11 =>
            try simp only [Act.put, List.setIfInBounds_toArray, List.set_cons_zero, List.set_cons_succ]
            refine wpAnyH_done (by kernel_rfl) ?_ _
            have hb3 := HBK1.out.drew.below ((Below.refl _ w1.drew).alloc (Nat.le_refl _) (.cells #[Value.int IntKind.i64 ((0 : Nat) : Int), Value.int IntKind.i64 0] 62))
            have ht3 := HT1.out.drew.alloc (.cells #[Value.int IntKind.i64 ((0 : Nat) : Int), Value.int IntKind.i64 0] 62)
            have HB3 := Lib.hid hb3
            have HT3 := Lib.hid ht3
            clear hb3 ht3
            go_wp2_with fail
            exact ⟨⟨i + 1, by omega, by go_num, by rw [HNX.out, HEF.out]; exact HB3.out, HT3.out⟩, meas_next hlt2 ewi⟩
          | some j =>
            as_aux_lemma =>
            obtain ⟨e, he, _⟩ := fIdx_some hf
            have hlk : ∀ W', MapAt W' c m T.W → (Instr.lookup 57 (.map m) (.agg (K.map (Value.int .u8)).toArray) true).run Try.prog W' = .ok (.tuple #[wtV e, .bool true]) W' := fun W' hM => by
              rw [← HKV.out]
              exact hM.look_some hc hW hnd hidl hf he
            have hdel : ∀ W' ty, MapAt W' c m T.W → ∃ w', (Builtin.delete_ #[57, 45] ty #[.map m, .agg (K.map (Value.int .u8)).toArray]).run Try.prog W' = .ok (.tuple #[]) w' ∧ MapAt w' c m (T.W.eraseIdx j) ∧ Turns (fun i => m = some i) W' w' := fun W' ty hM => by
              rw [← HKV.out]
              have := hM.del hc hW hnd ty hidl
              rw [hf] at this
              exact this
            have hbke := HOK.out.bk e (List.mem_of_getElem? he)
            unfold wtV at hlk
            have HLK := Lib.hid hlk
            have HDEL := Lib.hid hdel
            have eF : oneF ht T id = ⟨(cntF T e.bk (untF e.ht ht)).A, (cntF T e.bk (untF e.ht ht)).I, T.W.eraseIdx j⟩ := by unfold oneF; rw [hf]; simp only [he]
            have HEF := Lib.hid eF
            obtain ⟨k, hk⟩ : ∃ k, k = e.bk := ⟨_, rfl⟩
            obtain ⟨h0, hh0⟩ : ∃ h0, h0 = e.ht := ⟨_, rfl⟩
            rw [← hk, ← hh0] at HEF hbke HLK
            obtain ⟨hk24, _, q0, q1⟩ := hbke
            have hun := fun W => until_any (k : Int) h0 ht W q0 q1 g0 g1
            have hun1 : 1 ≤ untF h0 ht ∧ untF h0 ht ≤ 13 := by unfold untF; split <;> omega
            have hct := fun W hcw => count_any g k (untF h0 ht) m T.A T.I W hk24 hun1.1 hun1.2 hcw (HOK.out.a0 k hk24) (by have := HOK.out.a2 hk24; omega) (fun t ht => HOK.out.i0 k t hk24 ht) (fun t ht => by have := HOK.out.i2 hk24 ht; omega)
            obtain ⟨U, hU⟩ : ∃ U, U = untF h0 ht := ⟨_, rfl⟩
            simp only [← hU] at hun hct
            rw [← hU] at HEF
            have HUN := Lib.hid hun
            have HCT := Lib.hid hct
            have hk24' : (k : Int) < 24 := by omega
            clear hlk hdel hW hnd hf eF he hk hh0 hun hct hU hun1
            refine wp_region_held_drew (S := (EnS c g G m K T.W)) (by kernel_rfl) ?_ (fun hHeld => ?_)
            · exact HEN.out.drew
            refine wpAnyH_take (i := 0) (oi := { dst := some 28, op := Go.Op.move (Go.Operand.tmp 0), type := 24, pos := "fees.go:67", after := #[], guard := none }) (v := ?bv0) rfl (by kernel_rfl) (by kernel_rfl) (by kernel_rfl) (fun _ _ _ h => h) (Or.inl ⟨by rfl, ?by0⟩) (by assumption) ?br0
            case by0 => (intro w hSw; (try dsimp only at hSw); go_simp; try (with_reducible rfl))
            case br0 =>
            try simp only [Act.put, List.setIfInBounds_toArray, List.set_cons_zero, List.set_cons_succ]
            refine wpAnyH_take (i := 1) (oi := { dst := some 29, op := Go.Op.nilCheck (Go.Operand.tmp 28), type := 0, pos := "fees.go:67", after := #[{ on := 0, ground := Go.Ground.data }], guard := none }) (v := ?bv1) rfl (by kernel_rfl) (by kernel_rfl) (by kernel_rfl) (fun _ _ _ h => h) (Or.inl ⟨by rfl, ?by1⟩) (by assumption) ?br1
            case by1 => (intro w hSw; (try dsimp only at hSw); go_simp; try (with_reducible rfl))
            case br1 =>
            try simp only [Act.put, List.setIfInBounds_toArray, List.set_cons_zero, List.set_cons_succ]
            refine wpAnyH_take (i := 2) (oi := { dst := some 30, op := Go.Op.fieldAddr 59 (Go.Operand.tmp 29) 1, type := 0, pos := "fees.go:67", after := #[{ on := 1, ground := Go.Ground.data }], guard := none }) (v := ?bv2) rfl (by kernel_rfl) (by kernel_rfl) (by kernel_rfl) (fun _ _ _ h => h) (Or.inl ⟨by rfl, ?by2⟩) (by assumption) ?br2
            case by2 => (intro w hSw; (try dsimp only at hSw); go_simp; try (with_reducible rfl))
            case br2 =>
            try simp only [Act.put, List.setIfInBounds_toArray, List.set_cons_zero, List.set_cons_succ]
            refine wpAnyH_take (i := 3) (oi := { dst := some 31, op := Go.Op.load 57 (Go.Operand.tmp 30), type := 57, pos := "fees.go:67", after := #[{ on := 2, ground := Go.Ground.data }], guard := none }) (v := (.map m)) rfl (by kernel_rfl) (by kernel_rfl) (by kernel_rfl) (fun _ _ _ h => h) (Or.inl ⟨by rfl, ?by3⟩) (by assumption) ?br3
            case by3 => (intro w hSw; (try dsimp only at hSw); go_simp; try (simp [hSw.1]))
            case br3 =>
            try simp only [Act.put, List.setIfInBounds_toArray, List.set_cons_zero, List.set_cons_succ]
            refine wpAnyH_take (i := 4) (oi := { dst := some 32, op := Go.Op.load 45 (Go.Operand.tmp 8), type := 45, pos := "fees.go:67", after := #[], guard := none }) (v := (.agg (K.map (Value.int .u8)).toArray)) rfl (by kernel_rfl) (by kernel_rfl) (by kernel_rfl) (fun _ _ _ h => h) (yieldsIf_load_mid (by rfl) 45 (.tmp 8) rfl G 0 rfl (K.map (Value.int .u8)) _ (fun w' h => irow_range0 h.2.1) Try.underlying45 rfl HI32.out) (by assumption) ?_
            try simp only [Act.put, List.setIfInBounds_toArray, List.set_cons_zero, List.set_cons_succ]
            refine wpAnyH_take (i := 5) (oi := { dst := some 33, op := Go.Op.lookup 57 (Go.Operand.tmp 31) (Go.Operand.tmp 32) true, type := 70, pos := "fees.go:67", after := #[{ on := 3, ground := Go.Ground.data }, { on := 4, ground := Go.Ground.data }], guard := none }) (v := (.tuple #[.agg #[.int .i64 (k : Int), .int .i64 h0], .bool true])) rfl (by kernel_rfl) (by kernel_rfl) (by kernel_rfl) (fun _ _ _ h => h) (yieldsIf_lookup (by rfl) 57 (.tmp 31) (.tmp 32) rfl _ _ _ rfl rfl (fun w' h => HLK.out w' h.2.2)) (by assumption) ?_
            try simp only [Act.put, List.setIfInBounds_toArray, List.set_cons_zero, List.set_cons_succ]
            refine wpAnyH_take (i := 6) (oi := { dst := some 27, op := Go.Op.move (Go.Operand.tmp 33), type := 70, pos := "fees.go:67", after := #[{ on := 5, ground := Go.Ground.data }], guard := none }) (v := ?bv6) rfl (by kernel_rfl) (by kernel_rfl) (by kernel_rfl) (fun _ _ _ h => h) (Or.inl ⟨by rfl, ?by6⟩) (by assumption) ?br6
            case by6 => (intro w hSw; (try dsimp only at hSw); go_simp; try (with_reducible rfl))
            case br6 =>
            try simp only [Act.put, List.setIfInBounds_toArray, List.set_cons_zero, List.set_cons_succ]
            refine wpAnyH_take (i := 7) (oi := { dst := some 34, op := Go.Op.extract (Go.Operand.tmp 27) 0, type := 62, pos := "fees.go:67", after := #[{ on := 6, ground := Go.Ground.data }], guard := none }) (v := ?bv7) rfl (by kernel_rfl) (by kernel_rfl) (by kernel_rfl) (fun _ _ _ h => h) (Or.inl ⟨by rfl, ?by7⟩) (by assumption) ?br7
            case by7 => (intro w hSw; (try dsimp only at hSw); go_simp; try (with_reducible rfl))
            case br7 =>
            try simp only [Act.put, List.setIfInBounds_toArray, List.set_cons_zero, List.set_cons_succ]
            refine wpAnyH_take (i := 8) (oi := { dst := some 35, op := Go.Op.extract (Go.Operand.tmp 27) 1, type := 4, pos := "fees.go:67", after := #[{ on := 6, ground := Go.Ground.data }, { on := 10, ground := Go.Ground.gcOnly Go.Departure.lateStores }], guard := none }) (v := ?bv8) rfl (by kernel_rfl) (by kernel_rfl) (by kernel_rfl) (fun _ _ _ h => h) (Or.inl ⟨by rfl, ?by8⟩) (by assumption) ?br8
            case by8 => (intro w hSw; (try dsimp only at hSw); go_simp; try (with_reducible rfl))
            case br8 =>
            try simp only [Act.put, List.setIfInBounds_toArray, List.set_cons_zero, List.set_cons_succ]
            refine wpAnyH_ready (rs := [9]) (by kernel_rfl) (by simp) ?_
            refine AllReadyH.cons (o := { dst := some 9, op := Go.Op.alloc 62, type := 0, pos := "fees.go:67", after := #[], guard := none }) rfl (fun K hK => ?_) (AllReadyH.nil)
            go_simp
            refine hK.out _ _ ?_ (fun hHeld => ?_)
            · exact (HEN.out.alloc _).drew
            clear hK K
            try simp only [Act.put, List.setIfInBounds_toArray, List.set_cons_zero, List.set_cons_succ]
            refine wpAnyH_ready (rs := [10]) (by kernel_rfl) (by simp) ?_
            refine AllReadyH.cons (o := { dst := none, op := Go.Op.store 62 (Go.Operand.tmp 9) (Go.Operand.tmp 34), type := 0, pos := "fees.go:67", after := #[{ on := 9, ground := Go.Ground.data }, { on := 7, ground := Go.Ground.data }, { on := 0, ground := Go.Ground.phase }, { on := 1, ground := Go.Ground.phase }, { on := 2, ground := Go.Ground.phase }, { on := 3, ground := Go.Ground.phase }, { on := 4, ground := Go.Ground.phase }, { on := 5, ground := Go.Ground.phase }, { on := 6, ground := Go.Ground.phase }, { on := 7, ground := Go.Ground.phase }, { on := 8, ground := Go.Ground.textOnly Go.Departure.lateStores }, { on := 9, ground := Go.Ground.phase }], guard := none }) rfl (fun K hK => ?_) (AllReadyH.nil)
            go_simp
            refine hK.out _ _ ?_ (fun hHeld => ?_)
            · exact (HEN.out.alloc _).drew
            clear hK K
            try simp only [Act.put]
            refine wpAnyH_take (i := 11) (oi := { dst := some 10, op := Go.Op.assign (Go.Operand.tmp 35), type := 4, pos := "fees.go:67", after := #[{ on := 8, ground := Go.Ground.data }, { on := 10, ground := Go.Ground.chain }, { on := 0, ground := Go.Ground.phase }, { on := 1, ground := Go.Ground.phase }, { on := 2, ground := Go.Ground.phase }, { on := 3, ground := Go.Ground.phase }, { on := 4, ground := Go.Ground.phase }, { on := 5, ground := Go.Ground.phase }, { on := 6, ground := Go.Ground.phase }, { on := 7, ground := Go.Ground.phase }, { on := 8, ground := Go.Ground.phase }, { on := 9, ground := Go.Ground.phase }, { on := 10, ground := Go.Ground.phase }], guard := none }) (v := ?b_9_10v11) rfl (by kernel_rfl) (by kernel_rfl) (by kernel_rfl) (fun _ _ _ h => h) (Or.inl ⟨by rfl, ?b_9_10y11⟩) (by assumption) ?b_9_10r11
            case b_9_10y11 => (intro w hSw; (try dsimp only at hSw); go_simp; try (with_reducible rfl))
            case b_9_10r11 =>
            try simp only [Act.put, List.setIfInBounds_toArray, List.set_cons_zero, List.set_cons_succ]
            refine wpAnyH_done (by kernel_rfl) ?_ _
            have ln3 : ∀ o, (w1.drew.alloc o).heap[w1.heap.size]? = some o := fun o => heap_alloc_new w1.drew o
            have rg3 : (w1.alloc (.cells #[Value.int IntKind.i64 (k : Int), Value.int IntKind.i64 h0] 62)).drew.rangeAt w1.heap.size 0 [Value.int IntKind.i64 (k : Int), Value.int IntKind.i64 h0] := fun j v hv => by
              have hl := ln3 (.cells #[Value.int IntKind.i64 (k : Int), Value.int IntKind.i64 h0] 62)
              rw [Nat.zero_add]
              refine (cell_of_row _ _ j _ _ _ hl).trans ?_
              simpa using hv
            have b3 : Below w1.drew.heap.size w1.drew (w1.alloc (.cells #[Value.int IntKind.i64 (k : Int), Value.int IntKind.i64 h0] 62)).drew := (Below.refl _ w1.drew).alloc (Nat.le_refl _) (.cells #[Value.int IntKind.i64 (k : Int), Value.int IntKind.i64 h0] 62)
            obtain ⟨w3, hw3⟩ : ∃ z, z = (w1.alloc (.cells #[Value.int IntKind.i64 (k : Int), Value.int IntKind.i64 h0] 62)).drew := ⟨_, rfl⟩
            obtain ⟨G9, hG9⟩ : ∃ z, z = w1.heap.size := ⟨_, rfl⟩
            change Exit.then _ _ Exit.normal _ (w1.alloc (.cells #[Value.int IntKind.i64 (k : Int), Value.int IntKind.i64 h0] 62)).drew
            rw [← hw3, ← hG9]
            rw [← hw3, ← hG9] at rg3
            rw [← hw3] at b3
            have HB3 := Lib.hid (HBK1.out.drew.below b3)
            have R3 := Lib.hid (HEN.out.2.1.drew.below b3 HEN.out.2.1.drew.lt)
            have HT3 := Lib.hid (HT1.out.drew.trans (Turns.of_below (S := fun _ => False) b3) (fun _ _ q => q.elim))
            have RG3 := Lib.hid rg3
            have HG9 := Lib.hid (show G9 ≠ g from fun q => by have := HBK1.out.1.lt; omega)
            have HG9l := Lib.hid (show G9 < w3.heap.size by rw [hw3, hG9]; simp)
            have HGL := Lib.hid (show G < w3.heap.size from R3.out.lt)
            have HGg := Lib.hid (show ¬ G = g from fun q => by
              obtain ⟨us, hu, _⟩ := HB3.out.1
              have hg1 : w3.heap[g]? = _ := hu
              have hg2 : w3.heap[G]? = _ := R3.out
              rw [q, hg1] at hg2
              injection hg2 with hg2
              injection hg2 with _ hg2
              exact absurd hg2 (by decide))
            clear rg3 b3 hw3 hG9 ln3
            as_aux_lemma =>
            go_wp2_with fail
            refine wp_region_held_drew (S := (fun w' => w'.rangeAt G9 0 [Value.int IntKind.i64 (k : Int), Value.int IntKind.i64 h0])) (by kernel_rfl) ?_ (fun hHeld => ?_)
            · exact RG3.out
            refine wpAnyH_take (i := 0) (oi := { dst := some 37, op := Go.Op.move (Go.Operand.tmp 0), type := 24, pos := "fees.go:68", after := #[], guard := none }) (v := ?cv0) rfl (by kernel_rfl) (by kernel_rfl) (by kernel_rfl) (fun _ _ _ h => h) (Or.inl ⟨by rfl, ?cy0⟩) (by assumption) ?cr0
            case cy0 => (intro w hSw; (try dsimp only at hSw); go_simp; try (with_reducible rfl))
            case cr0 =>
            try simp only [Act.put, List.setIfInBounds_toArray, List.set_cons_zero, List.set_cons_succ]
            refine wpAnyH_take (i := 1) (oi := { dst := some 38, op := Go.Op.fieldAddr 62 (Go.Operand.tmp 9) 0, type := 0, pos := "fees.go:68", after := #[], guard := none }) (v := ?cv1) rfl (by kernel_rfl) (by kernel_rfl) (by kernel_rfl) (fun _ _ _ h => h) (Or.inl ⟨by rfl, ?cy1⟩) (by assumption) ?cr1
            case cy1 => (intro w hSw; (try dsimp only at hSw); go_simp; try (with_reducible rfl))
            case cr1 =>
            try simp only [Act.put, List.setIfInBounds_toArray, List.set_cons_zero, List.set_cons_succ]
            refine wpAnyH_take (i := 2) (oi := { dst := some 39, op := Go.Op.load 3 (Go.Operand.tmp 38), type := 3, pos := "fees.go:68", after := #[{ on := 1, ground := Go.Ground.data }], guard := none }) (v := (.int .i64 (k : Int))) rfl (by kernel_rfl) (by kernel_rfl) (by kernel_rfl) (fun _ _ _ h => h) (Or.inl ⟨by rfl, ?cy2⟩) (by assumption) ?cr2
            case cy2 => (intro w hSw; (try dsimp only at hSw); go_simp; try (have q := hSw 0 _ rfl; rw [Nat.add_zero] at q; simp [q]))
            case cr2 =>
            try simp only [Act.put, List.setIfInBounds_toArray, List.set_cons_zero, List.set_cons_succ]
            refine wpAnyH_take (i := 3) (oi := { dst := some 40, op := Go.Op.nilCheck (Go.Operand.tmp 37), type := 0, pos := "fees.go:68", after := #[{ on := 0, ground := Go.Ground.data }], guard := none }) (v := ?cv3) rfl (by kernel_rfl) (by kernel_rfl) (by kernel_rfl) (fun _ _ _ h => h) (Or.inl ⟨by rfl, ?cy3⟩) (by assumption) ?cr3
            case cy3 => (intro w hSw; (try dsimp only at hSw); go_simp; try (with_reducible rfl))
            case cr3 =>
            try simp only [Act.put, List.setIfInBounds_toArray, List.set_cons_zero, List.set_cons_succ]
            refine wpAnyH_take (i := 4) (oi := { dst := some 41, op := Go.Op.fieldAddr 59 (Go.Operand.tmp 40) 0, type := 0, pos := "fees.go:68", after := #[{ on := 3, ground := Go.Ground.data }], guard := none }) (v := ?cv4) rfl (by kernel_rfl) (by kernel_rfl) (by kernel_rfl) (fun _ _ _ h => h) (Or.inl ⟨by rfl, ?cy4⟩) (by assumption) ?cr4
            case cy4 => (intro w hSw; (try dsimp only at hSw); go_simp; try (with_reducible rfl))
            case cr4 =>
            try simp only [Act.put, List.setIfInBounds_toArray, List.set_cons_zero, List.set_cons_succ]
            refine wpAnyH_take (i := 5) (oi := { dst := some 42, op := Go.Op.indexAddr 56 (Go.Operand.tmp 41) (Go.Operand.tmp 39), type := 0, pos := "fees.go:68", after := #[{ on := 4, ground := Go.Ground.data }, { on := 2, ground := Go.Ground.data }], guard := none }) (v := ?cv5) rfl (by kernel_rfl) (by kernel_rfl) (by kernel_rfl) (fun _ _ _ h => h) (Or.inl ⟨by rfl, ?cy5⟩) (by assumption) ?cr5
            case cy5 => (intro w hSw; (try dsimp only at hSw); go_simp; try (with_reducible rfl))
            case cr5 =>
            try simp only [Act.put, List.setIfInBounds_toArray, List.set_cons_zero, List.set_cons_succ]
            refine wpAnyH_take (i := 6) (oi := { dst := some 43, op := Go.Op.load 62 (Go.Operand.tmp 9), type := 62, pos := "fees.go:68", after := #[], guard := none }) (v := (.agg #[Value.int IntKind.i64 (k : Int), Value.int IntKind.i64 h0])) rfl (by kernel_rfl) (by kernel_rfl) (by kernel_rfl) (fun _ _ _ h => h) (yieldsIf_load_mid (by rfl) 62 (.tmp 9) rfl G9 0 rfl [Value.int IntKind.i64 (k : Int), Value.int IntKind.i64 h0] _ (fun w' h => h) Try.underlying62 rfl (by kernel_rfl)) (by assumption) ?_
            try simp only [Act.put, List.setIfInBounds_toArray, List.set_cons_zero, List.set_cons_succ]
            refine wpAnyH_take (i := 7) (oi := { dst := some 44, op := Go.Op.move (Go.Operand.tmp 1), type := 3, pos := "fees.go:68", after := #[], guard := none }) (v := ?cv7) rfl (by kernel_rfl) (by kernel_rfl) (by kernel_rfl) (fun _ _ _ h => h) (Or.inl ⟨by rfl, ?cy7⟩) (by assumption) ?cr7
            case cy7 => (intro w hSw; (try dsimp only at hSw); go_simp; try (with_reducible rfl))
            case cr7 =>
            try simp only [Act.put, List.setIfInBounds_toArray, List.set_cons_zero, List.set_cons_succ]
            refine wpAnyH_ready (rs := [8]) (by kernel_rfl) (by simp) ?_
            refine AllReadyH.cons (o := { dst := some 45, op := Go.Op.call { callee := Go.Callee.value (Go.Operand.func 27), args := #[Go.Operand.tmp 43, Go.Operand.tmp 44], argTypes := #[62, 3] }, type := 3, pos := "fees.go:68", after := #[{ on := 6, ground := Go.Ground.data }, { on := 7, ground := Go.Ground.data }], guard := none }) rfl (fun K hK => ?_) (AllReadyH.nil)
            go_simp
            refine (HUN.out _).mono ?_
            rintro e w4 ⟨rfl, hb4⟩
            have HC4 := Lib.hid (HB3.out.drew.1.turns (S := fun _ => False) (Turns.of_below hb4) (fun q => q))
            have HT4 := Lib.hid (HT3.out.drew.trans (Turns.of_below (S := fun _ => False) hb4) (fun _ _ q => q.elim))
            have HM4 := Lib.hid (HB3.out.drew.2.turns (S := fun _ => False) (Turns.of_below hb4) (fun _ _ q => q))
            have R4 := Lib.hid (R3.out.drew.below hb4 R3.out.drew.lt)
            have RG4 := Lib.hid (show w4.rangeAt G9 0 [Value.int IntKind.i64 (k : Int), Value.int IntKind.i64 h0] from fun j v hv => (hb4.cell (p := ⟨G9, _, none⟩) HG9l.out).trans (RG3.out j v hv))
            have HG4l := Lib.hid (show G9 < w4.heap.size from Nat.lt_of_lt_of_le HG9l.out hb4.size)
            clear hb4
            refine hK.out _ _ ?_ (fun hHeld => ?_)
            · exact RG4.out
            clear hK K
            try simp only [Act.put, List.setIfInBounds_toArray, List.set_cons_zero, List.set_cons_succ]
            refine wpAnyH_ready (rs := [9]) (by kernel_rfl) (by simp) ?_
            refine AllReadyH.cons (o := { dst := some 46, op := Go.Op.call { callee := Go.Callee.value (Go.Operand.func 26), args := #[Go.Operand.tmp 42, Go.Operand.tmp 45], argTypes := #[55, 3] }, type := 0, pos := "fees.go:68", after := #[{ on := 5, ground := Go.Ground.data }, { on := 8, ground := Go.Ground.data }, { on := 8, ground := Go.Ground.chain }], guard := none }) rfl (fun K hK => ?_) (AllReadyH.nil)
            go_simp
            refine (HCT.out _ HC4.out).mono ?_
            rintro e w5 ⟨rfl, hc5, ht5⟩
            have RG5 := Lib.hid (show w5.rangeAt G9 0 [Value.int IntKind.i64 (k : Int), Value.int IntKind.i64 h0] from fun j v hv => (ht5.cell (p := ⟨G9, _, none⟩) HG4l.out HG9.out).trans (RG4.out j v hv))
            refine hK.out _ _ ?_ (fun hHeld => ?_)
            · exact RG5.out
            clear hK K
            try simp only [Act.put, List.setIfInBounds_toArray, List.set_cons_zero, List.set_cons_succ]
            refine wpAnyH_done (by kernel_rfl) ?_ _
            have hm5 := HM4.out.turns (S := fun i => i = g) ht5 (fun b hb q => HGM.out (by rw [hb, q]))
            have HC5 := Lib.hid hc5
            have HM5 := Lib.hid hm5
            have R5 := Lib.hid (R4.out.turns (S := fun i => i = g) ht5 HGg.out)
            have HT5 := Lib.hid (HT4.out.trans ht5 (fun _ _ q => .inl q))
            clear hc5 ht5 hm5
            as_aux_lemma =>
            go_wp2_with fail
            refine wp_region_held_drew (S := (fun w' => w'.cell? ⟨g, 312, none⟩ = some (.map m) ∧ IRow w' G 45 .u8 K)) (by kernel_rfl) ?_ (fun hHeld => ?_)
            · exact ⟨HC5.out.map, R5.out.drew⟩
            refine wpAnyH_take (i := 0) (oi := { dst := some 47, op := Go.Op.move (Go.Operand.tmp 0), type := 24, pos := "fees.go:69", after := #[], guard := none }) (v := ?dv0) rfl (by kernel_rfl) (by kernel_rfl) (by kernel_rfl) (fun _ _ _ h => h) (Or.inl ⟨by rfl, ?dy0⟩) (by assumption) ?dr0
            case dy0 => (intro w hSw; (try dsimp only at hSw); go_simp; try (with_reducible rfl))
            case dr0 =>
            try simp only [Act.put, List.setIfInBounds_toArray, List.set_cons_zero, List.set_cons_succ]
            refine wpAnyH_take (i := 1) (oi := { dst := some 48, op := Go.Op.nilCheck (Go.Operand.tmp 47), type := 0, pos := "fees.go:69", after := #[{ on := 0, ground := Go.Ground.data }], guard := none }) (v := ?dv1) rfl (by kernel_rfl) (by kernel_rfl) (by kernel_rfl) (fun _ _ _ h => h) (Or.inl ⟨by rfl, ?dy1⟩) (by assumption) ?dr1
            case dy1 => (intro w hSw; (try dsimp only at hSw); go_simp; try (with_reducible rfl))
            case dr1 =>
            try simp only [Act.put, List.setIfInBounds_toArray, List.set_cons_zero, List.set_cons_succ]
            refine wpAnyH_take (i := 2) (oi := { dst := some 49, op := Go.Op.fieldAddr 59 (Go.Operand.tmp 48) 1, type := 0, pos := "fees.go:69", after := #[{ on := 1, ground := Go.Ground.data }], guard := none }) (v := ?dv2) rfl (by kernel_rfl) (by kernel_rfl) (by kernel_rfl) (fun _ _ _ h => h) (Or.inl ⟨by rfl, ?dy2⟩) (by assumption) ?dr2
            case dy2 => (intro w hSw; (try dsimp only at hSw); go_simp; try (with_reducible rfl))
            case dr2 =>
            try simp only [Act.put, List.setIfInBounds_toArray, List.set_cons_zero, List.set_cons_succ]
            refine wpAnyH_take (i := 3) (oi := { dst := some 50, op := Go.Op.load 57 (Go.Operand.tmp 49), type := 57, pos := "fees.go:69", after := #[{ on := 2, ground := Go.Ground.data }], guard := none }) (v := (.map m)) rfl (by kernel_rfl) (by kernel_rfl) (by kernel_rfl) (fun _ _ _ h => h) (Or.inl ⟨by rfl, ?dy3⟩) (by assumption) ?dr3
            case dy3 => (intro w hSw; (try dsimp only at hSw); go_simp; try (simp [hSw.1]))
            case dr3 =>
            try simp only [Act.put, List.setIfInBounds_toArray, List.set_cons_zero, List.set_cons_succ]
            refine wpAnyH_take (i := 4) (oi := { dst := some 51, op := Go.Op.load 45 (Go.Operand.tmp 8), type := 45, pos := "fees.go:69", after := #[], guard := none }) (v := (.agg (K.map (Value.int .u8)).toArray)) rfl (by kernel_rfl) (by kernel_rfl) (by kernel_rfl) (fun _ _ _ h => h) (yieldsIf_load_mid (by rfl) 45 (.tmp 8) rfl G 0 rfl (K.map (Value.int .u8)) _ (fun w' h => irow_range0 h.2) Try.underlying45 rfl HI32.out) (by assumption) ?_
            try simp only [Act.put, List.setIfInBounds_toArray, List.set_cons_zero, List.set_cons_succ]
            refine wpAnyH_ready (rs := [5]) (by kernel_rfl) (by simp) ?_
            refine AllReadyH.cons (o := { dst := none, op := Go.Op.call { callee := Go.Callee.builtin Go.Builtin.delete, args := #[Go.Operand.tmp 50, Go.Operand.tmp 51], argTypes := #[57, 45] }, type := 0, pos := "fees.go:69", after := #[{ on := 3, ground := Go.Ground.data }, { on := 4, ground := Go.Ground.data }], guard := none }) rfl (fun K hK => ?_) (AllReadyH.nil)
            obtain ⟨w6, hr6, hm6, ht6⟩ := HDEL.out w5.drew 0 HM5.out.drew
            go_simp
            refine hK.out _ _ ?_ (fun hHeld => ?_)
            · exact ⟨(HC5.out.drew.turns (S := fun i => m = some i) ht6 HGM.out).map, R5.out.drew.turns (S := fun i => m = some i) ht6 (irow_not_map R5.out.drew HM5.out.drew)⟩
            clear hK K
            try simp only [Act.put]
            refine wpAnyH_done (by kernel_rfl) ?_ _
            have HB6 := Lib.hid (show BookAt w6 c g m (oneF ht T id) by rw [HEF.out]; exact ⟨HC5.out.drew.turns (S := fun i => m = some i) ht6 HGM.out, hm6⟩)
            have HT6 := Lib.hid (HT5.out.drew.trans ht6 (fun _ _ q => .inr q))
            clear hm6 ht6
            as_aux_lemma =>
            go_wp2_with fail
            exact ⟨⟨i + 1, by omega, by go_num, by rw [HNX.out]; exact HB6.out, HT6.out⟩, meas_next hlt2 ewi⟩
        · go_wp2_with fail
          obtain rfl : i = ids.length := by omega
          rw [List.take_length] at hb2
          exact bodyPost_end (results_none Try.results13 _ _ _) rfl ⟨rfl, hb2, ht2⟩
end Go.Proofs.Ytfhpodeppmnopaa
