/-
  block.invert, its second half of a round. Conditions: none.
-/
import Derived.Test.YtgkocmljnoambaaDoorNInv
namespace Go.Proofs.YtgkocmljnoambaaDoor
open Go.RowKit

def oI6_0 : Oper := { dst := some 19, op := Go.Op.load 24 (Go.Operand.tmp 3), type := 24, pos := "work.go:85", after := #[], guard := none }
def oI6_1 : Oper := { dst := some 20, op := Go.Op.call { callee := Go.Callee.value (Go.Operand.func 27), args := #[], argTypes := #[] }, type := 24, pos := "work.go:85", after := #[], guard := none }
def oI6_2 : Oper := { dst := some 21, op := Go.Op.call { callee := Go.Callee.value (Go.Operand.func 15), args := #[Go.Operand.tmp 19, Go.Operand.tmp 20], argTypes := #[24, 24] }, type := 24, pos := "work.go:85", after := #[{ on := 0, ground := Go.Ground.data }, { on := 1, ground := Go.Ground.data }, { on := 1, ground := Go.Ground.chain }], guard := none }
def oI6_3 : Oper := { dst := some 22, op := Go.Op.load 24 (Go.Operand.tmp 4), type := 24, pos := "work.go:85", after := #[], guard := none }
def oI6_4 : Oper := { dst := some 23, op := Go.Op.load 24 (Go.Operand.tmp 1), type := 24, pos := "work.go:85", after := #[], guard := none }
def oI6_5 : Oper := { dst := some 24, op := Go.Op.call { callee := Go.Callee.value (Go.Operand.func 43), args := #[Go.Operand.tmp 22, Go.Operand.tmp 23], argTypes := #[24, 24] }, type := 24, pos := "work.go:85", after := #[{ on := 3, ground := Go.Ground.data }, { on := 4, ground := Go.Ground.data }, { on := 2, ground := Go.Ground.chain }], guard := none }
def oI6_6 : Oper := { dst := none, op := Go.Op.store 24 (Go.Operand.tmp 3) (Go.Operand.tmp 21), type := 0, pos := "work.go:85", after := #[{ on := 2, ground := Go.Ground.data }, { on := 5, ground := Go.Ground.chain }, { on := 0, ground := Go.Ground.phase }, { on := 1, ground := Go.Ground.phase }, { on := 2, ground := Go.Ground.phase }, { on := 3, ground := Go.Ground.textOnly Go.Departure.lateStores }, { on := 4, ground := Go.Ground.textOnly Go.Departure.lateStores }, { on := 5, ground := Go.Ground.textOnly Go.Departure.lateStoresUnsure }], guard := none }
def oI6_7 : Oper := { dst := none, op := Go.Op.store 24 (Go.Operand.tmp 4) (Go.Operand.tmp 24), type := 0, pos := "work.go:85", after := #[{ on := 5, ground := Go.Ground.data }, { on := 6, ground := Go.Ground.chain }, { on := 0, ground := Go.Ground.phase }, { on := 1, ground := Go.Ground.phase }, { on := 2, ground := Go.Ground.phase }, { on := 3, ground := Go.Ground.phase }, { on := 4, ground := Go.Ground.phase }, { on := 5, ground := Go.Ground.phase }, { on := 6, ground := Go.Ground.phase }], guard := none }

set_option maxRecDepth 1000000 in
set_option maxHeartbeats 25600000 in
theorem inv6_any {Q : Exit → Act → World → Prop} (G d q2 r2 q3 r3 : Nat) (w wc : World) (hG : w.heap.size + 2 ≤ G) (hI : InvAt w G d q2 r2 wc) (c1 : ∀ W, Calls Tryd.prog 15 #[.agg (numA q2), numV 1] W fun e w' => e = .returned (.agg (numA q3)) ∧ Below W.heap.size W w') (c2 : ∀ W, Calls Tryd.prog 43 #[.agg (numA r2), .agg (numA d)] W fun e w' => e = .returned (.agg (numA r3)) ∧ Below W.heap.size W w') (u0 u2 u5 u6 u7 u8 u9 u10 u11 u12 u13 u14 u15 u16 u17 u18 u19 u20 u21 u22 u23 u24 u25 u26 : Value)
    (hQ : ∀ (v19 v20 v21 v22 v23 v24 : Value) (w' : World), InvAt w G d q3 r3 w' → Q .normal ⟨#[u0, .pointer (some ⟨w.heap.size, 0, none⟩), u2, .pointer (some ⟨G, 0, none⟩), .pointer (some ⟨G + 1, 0, none⟩), u5, u6, u7, u8, u9, u10, u11, u12, u13, u14, u15, u16, u17, u18, v19, v20, v21, v22, v23, v24, u25, u26], []⟩ w') :
    Code.wp Tryd.prog (regOf 6 Tryd.f26) Q ⟨#[u0, .pointer (some ⟨w.heap.size, 0, none⟩), u2, .pointer (some ⟨G, 0, none⟩), .pointer (some ⟨G + 1, 0, none⟩), u5, u6, u7, u8, u9, u10, u11, u12, u13, u14, u15, u16, u17, u18, u19, u20, u21, u22, u23, u24, u25, u26], []⟩ wc := by
  conv => arg 2; whnf
  have HQ := Lib.hid hQ
  have HI := Lib.hid hI.drew
  have HG := Lib.hid hG
  have HA3 := Lib.hid c1
  have HA4 := Lib.hid c2
  clear c1 c2
  clear hQ hI hG
  refine wp_region_held_drew (S := AnyW) (by kernel_rfl) ?_ (fun hHeld => ?_)
  · exact anyW _
  refine wpAnyH_ready (rs := [0, 1, 3, 4]) (by kernel_rfl) (by simp) ?_
  refine AllReadyH.cons (o := oI6_0) rfl (fun K hK => ?_) (AllReadyH.cons (o := oI6_1) rfl (fun K hK => ?_) (AllReadyH.cons (o := oI6_3) rfl (fun K hK => ?_) (AllReadyH.cons (o := oI6_4) rfl (fun K hK => ?_) (AllReadyH.nil))))
  · as_aux_lemma =>
    dsimp only [oI6_0]
    simp only [Region.wanted, if_true]
    refine wp_load_mid 24 (.tmp 3) rfl G 0 rfl ((num q2).map (Value.int .u8)) _ HI.out.rg.range Tryd.underlying24 rfl (by rw [List.length_map]; exact size_numN q2) ?_
    refine hK.out _ _ ?_ (fun hHeld => ?_)
    · exact anyW _
    clear hK K
    try simp only [Act.put, List.setIfInBounds_toArray, List.set_cons_zero, List.set_cons_succ]
    refine wpAnyH_ready (rs := [1, 3, 4]) (by kernel_rfl) (by simp) ?_
    refine AllReadyH.cons (o := oI6_1) rfl (fun K hK => ?_) (AllReadyH.cons (o := oI6_3) rfl (fun K hK => ?_) (AllReadyH.cons (o := oI6_4) rfl (fun K hK => ?_) (AllReadyH.nil)))
    · as_aux_lemma =>
      dsimp only [oI6_1]
      go_simp
      refine (one_any _).mono ?_
      rintro e w4 ⟨rfl, hb4⟩
      have HI := Lib.hid (HI.out.below hb4)
      clear hb4
      go_simp
      refine hK.out _ _ ?_ (fun hHeld => ?_)
      · exact anyW _
      clear hK K
      try simp only [Act.put, List.setIfInBounds_toArray, List.set_cons_zero, List.set_cons_succ]
      refine wpAnyH_ready (rs := [2, 3, 4]) (by kernel_rfl) (by simp) ?_
      refine AllReadyH.cons (o := oI6_2) rfl (fun K hK => ?_) (AllReadyH.cons (o := oI6_3) rfl (fun K hK => ?_) (AllReadyH.cons (o := oI6_4) rfl (fun K hK => ?_) (AllReadyH.nil)))
      · as_aux_lemma =>
        dsimp only [oI6_2]
        go_simp
        refine (HA3.out _).mono ?_
        rintro e w4 ⟨rfl, hb4⟩
        have HI := Lib.hid (HI.out.below hb4)
        clear hb4
        go_simp
        refine hK.out _ _ ?_ (fun hHeld => ?_)
        · exact anyW _
        clear hK K
        try simp only [Act.put, List.setIfInBounds_toArray, List.set_cons_zero, List.set_cons_succ]
        refine wpAnyH_ready (rs := [3, 4]) (by kernel_rfl) (by simp) ?_
        refine AllReadyH.cons (o := oI6_3) rfl (fun K hK => ?_) (AllReadyH.cons (o := oI6_4) rfl (fun K hK => ?_) (AllReadyH.nil))
        · as_aux_lemma =>
          dsimp only [oI6_3]
          simp only [Region.wanted, if_true]
          refine wp_load_mid 24 (.tmp 4) rfl (G + 1) 0 rfl ((num r2).map (Value.int .u8)) _ HI.out.rr.range Tryd.underlying24 rfl (by rw [List.length_map]; exact size_numN r2) ?_
          refine hK.out _ _ ?_ (fun hHeld => ?_)
          · exact anyW _
          clear hK K
          try simp only [Act.put, List.setIfInBounds_toArray, List.set_cons_zero, List.set_cons_succ]
          refine wpAnyH_ready (rs := [4]) (by kernel_rfl) (by simp) ?_
          refine AllReadyH.cons (o := oI6_4) rfl (fun K hK => ?_) (AllReadyH.nil)
          dsimp only [oI6_4]
          simp only [Region.wanted, if_true]
          refine wp_load_mid 24 (.tmp 1) rfl w.heap.size 0 rfl ((num d).map (Value.int .u8)) _ HI.out.rd.range Tryd.underlying24 rfl (by rw [List.length_map]; exact size_numN d) ?_
          refine hK.out _ _ ?_ (fun hHeld => ?_)
          · exact anyW _
          clear hK K
          try simp only [Act.put, List.setIfInBounds_toArray, List.set_cons_zero, List.set_cons_succ]
          refine wpAnyH_ready (rs := [5]) (by kernel_rfl) (by simp) ?_
          refine AllReadyH.cons (o := oI6_5) rfl (fun K hK => ?_) (AllReadyH.nil)
          dsimp only [oI6_5]
          go_simp
          refine (HA4.out _).mono ?_
          rintro e w4 ⟨rfl, hb4⟩
          have HI := Lib.hid (HI.out.below hb4)
          clear hb4
          go_simp
          refine hK.out _ _ ?_ (fun hHeld => ?_)
          · exact anyW _
          clear hK K
          try simp only [Act.put, List.setIfInBounds_toArray, List.set_cons_zero, List.set_cons_succ]
          refine wpAnyH_ready (rs := [6]) (by kernel_rfl) (by simp) ?_
          refine AllReadyH.cons (o := oI6_6) rfl (fun K hK => ?_) (AllReadyH.nil)
          dsimp only [oI6_6]
          simp only [Region.wanted, if_true]
          refine op_store_irow 24 (.tmp 3) (.tmp 21) rfl (g := G) (t := 24) (k := .u8) (xs := num q2) (ys := num q3) rfl rfl HI.out.rg (size_numN q3) (same_length _ _) ?_
          have HI := Lib.hid (HI.out.setG HG.out q3)
          refine hK.out _ _ ?_ (fun hHeld => ?_)
          · exact anyW _
          clear hK K
          try simp only [Act.put]
          refine wpAnyH_ready (rs := [7]) (by kernel_rfl) (by simp) ?_
          refine AllReadyH.cons (o := oI6_7) rfl (fun K hK => ?_) (AllReadyH.nil)
          dsimp only [oI6_7]
          simp only [Region.wanted, if_true]
          refine op_store_irow 24 (.tmp 4) (.tmp 24) rfl (g := G + 1) (t := 24) (k := .u8) (xs := num r2) (ys := num r3) rfl rfl HI.out.rr (size_numN r3) (same_length _ _) ?_
          have HI := Lib.hid (HI.out.setR HG.out r3)
          refine hK.out _ _ ?_ (fun hHeld => ?_)
          · exact anyW _
          clear hK K
          try simp only [Act.put]
          refine wpAnyH_done (by kernel_rfl) ?_ _
          exact HQ.out _ _ _ _ _ _ _ HI.out
        · as_aux_lemma =>
          dsimp only [oI6_4]
          simp only [Region.wanted, if_true]
          refine wp_load_mid 24 (.tmp 1) rfl w.heap.size 0 rfl ((num d).map (Value.int .u8)) _ HI.out.rd.range Tryd.underlying24 rfl (by rw [List.length_map]; exact size_numN d) ?_
          refine hK.out _ _ ?_ (fun hHeld => ?_)
          · exact anyW _
          clear hK K
          try simp only [Act.put, List.setIfInBounds_toArray, List.set_cons_zero, List.set_cons_succ]
          refine wpAnyH_ready (rs := [3]) (by kernel_rfl) (by simp) ?_
          refine AllReadyH.cons (o := oI6_3) rfl (fun K hK => ?_) (AllReadyH.nil)
          dsimp only [oI6_3]
          simp only [Region.wanted, if_true]
          refine wp_load_mid 24 (.tmp 4) rfl (G + 1) 0 rfl ((num r2).map (Value.int .u8)) _ HI.out.rr.range Tryd.underlying24 rfl (by rw [List.length_map]; exact size_numN r2) ?_
          refine hK.out _ _ ?_ (fun hHeld => ?_)
          · exact anyW _
          clear hK K
          try simp only [Act.put, List.setIfInBounds_toArray, List.set_cons_zero, List.set_cons_succ]
          refine wpAnyH_ready (rs := [5]) (by kernel_rfl) (by simp) ?_
          refine AllReadyH.cons (o := oI6_5) rfl (fun K hK => ?_) (AllReadyH.nil)
          dsimp only [oI6_5]
          go_simp
          refine (HA4.out _).mono ?_
          rintro e w4 ⟨rfl, hb4⟩
          have HI := Lib.hid (HI.out.below hb4)
          clear hb4
          go_simp
          refine hK.out _ _ ?_ (fun hHeld => ?_)
          · exact anyW _
          clear hK K
          try simp only [Act.put, List.setIfInBounds_toArray, List.set_cons_zero, List.set_cons_succ]
          refine wpAnyH_ready (rs := [6]) (by kernel_rfl) (by simp) ?_
          refine AllReadyH.cons (o := oI6_6) rfl (fun K hK => ?_) (AllReadyH.nil)
          dsimp only [oI6_6]
          simp only [Region.wanted, if_true]
          refine op_store_irow 24 (.tmp 3) (.tmp 21) rfl (g := G) (t := 24) (k := .u8) (xs := num q2) (ys := num q3) rfl rfl HI.out.rg (size_numN q3) (same_length _ _) ?_
          have HI := Lib.hid (HI.out.setG HG.out q3)
          refine hK.out _ _ ?_ (fun hHeld => ?_)
          · exact anyW _
          clear hK K
          try simp only [Act.put]
          refine wpAnyH_ready (rs := [7]) (by kernel_rfl) (by simp) ?_
          refine AllReadyH.cons (o := oI6_7) rfl (fun K hK => ?_) (AllReadyH.nil)
          dsimp only [oI6_7]
          simp only [Region.wanted, if_true]
          refine op_store_irow 24 (.tmp 4) (.tmp 24) rfl (g := G + 1) (t := 24) (k := .u8) (xs := num r2) (ys := num r3) rfl rfl HI.out.rr (size_numN r3) (same_length _ _) ?_
          have HI := Lib.hid (HI.out.setR HG.out r3)
          refine hK.out _ _ ?_ (fun hHeld => ?_)
          · exact anyW _
          clear hK K
          try simp only [Act.put]
          refine wpAnyH_done (by kernel_rfl) ?_ _
          exact HQ.out _ _ _ _ _ _ _ HI.out
      · as_aux_lemma =>
        dsimp only [oI6_3]
        simp only [Region.wanted, if_true]
        refine wp_load_mid 24 (.tmp 4) rfl (G + 1) 0 rfl ((num r2).map (Value.int .u8)) _ HI.out.rr.range Tryd.underlying24 rfl (by rw [List.length_map]; exact size_numN r2) ?_
        refine hK.out _ _ ?_ (fun hHeld => ?_)
        · exact anyW _
        clear hK K
        try simp only [Act.put, List.setIfInBounds_toArray, List.set_cons_zero, List.set_cons_succ]
        refine wpAnyH_ready (rs := [2, 4]) (by kernel_rfl) (by simp) ?_
        refine AllReadyH.cons (o := oI6_2) rfl (fun K hK => ?_) (AllReadyH.cons (o := oI6_4) rfl (fun K hK => ?_) (AllReadyH.nil))
        · as_aux_lemma =>
          dsimp only [oI6_2]
          go_simp
          refine (HA3.out _).mono ?_
          rintro e w4 ⟨rfl, hb4⟩
          have HI := Lib.hid (HI.out.below hb4)
          clear hb4
          go_simp
          refine hK.out _ _ ?_ (fun hHeld => ?_)
          · exact anyW _
          clear hK K
          try simp only [Act.put, List.setIfInBounds_toArray, List.set_cons_zero, List.set_cons_succ]
          refine wpAnyH_ready (rs := [4]) (by kernel_rfl) (by simp) ?_
          refine AllReadyH.cons (o := oI6_4) rfl (fun K hK => ?_) (AllReadyH.nil)
          dsimp only [oI6_4]
          simp only [Region.wanted, if_true]
          refine wp_load_mid 24 (.tmp 1) rfl w.heap.size 0 rfl ((num d).map (Value.int .u8)) _ HI.out.rd.range Tryd.underlying24 rfl (by rw [List.length_map]; exact size_numN d) ?_
          refine hK.out _ _ ?_ (fun hHeld => ?_)
          · exact anyW _
          clear hK K
          try simp only [Act.put, List.setIfInBounds_toArray, List.set_cons_zero, List.set_cons_succ]
          refine wpAnyH_ready (rs := [5]) (by kernel_rfl) (by simp) ?_
          refine AllReadyH.cons (o := oI6_5) rfl (fun K hK => ?_) (AllReadyH.nil)
          dsimp only [oI6_5]
          go_simp
          refine (HA4.out _).mono ?_
          rintro e w4 ⟨rfl, hb4⟩
          have HI := Lib.hid (HI.out.below hb4)
          clear hb4
          go_simp
          refine hK.out _ _ ?_ (fun hHeld => ?_)
          · exact anyW _
          clear hK K
          try simp only [Act.put, List.setIfInBounds_toArray, List.set_cons_zero, List.set_cons_succ]
          refine wpAnyH_ready (rs := [6]) (by kernel_rfl) (by simp) ?_
          refine AllReadyH.cons (o := oI6_6) rfl (fun K hK => ?_) (AllReadyH.nil)
          dsimp only [oI6_6]
          simp only [Region.wanted, if_true]
          refine op_store_irow 24 (.tmp 3) (.tmp 21) rfl (g := G) (t := 24) (k := .u8) (xs := num q2) (ys := num q3) rfl rfl HI.out.rg (size_numN q3) (same_length _ _) ?_
          have HI := Lib.hid (HI.out.setG HG.out q3)
          refine hK.out _ _ ?_ (fun hHeld => ?_)
          · exact anyW _
          clear hK K
          try simp only [Act.put]
          refine wpAnyH_ready (rs := [7]) (by kernel_rfl) (by simp) ?_
          refine AllReadyH.cons (o := oI6_7) rfl (fun K hK => ?_) (AllReadyH.nil)
          dsimp only [oI6_7]
          simp only [Region.wanted, if_true]
          refine op_store_irow 24 (.tmp 4) (.tmp 24) rfl (g := G + 1) (t := 24) (k := .u8) (xs := num r2) (ys := num r3) rfl rfl HI.out.rr (size_numN r3) (same_length _ _) ?_
          have HI := Lib.hid (HI.out.setR HG.out r3)
          refine hK.out _ _ ?_ (fun hHeld => ?_)
          · exact anyW _
          clear hK K
          try simp only [Act.put]
          refine wpAnyH_done (by kernel_rfl) ?_ _
          exact HQ.out _ _ _ _ _ _ _ HI.out
        · as_aux_lemma =>
          dsimp only [oI6_4]
          simp only [Region.wanted, if_true]
          refine wp_load_mid 24 (.tmp 1) rfl w.heap.size 0 rfl ((num d).map (Value.int .u8)) _ HI.out.rd.range Tryd.underlying24 rfl (by rw [List.length_map]; exact size_numN d) ?_
          refine hK.out _ _ ?_ (fun hHeld => ?_)
          · exact anyW _
          clear hK K
          try simp only [Act.put, List.setIfInBounds_toArray, List.set_cons_zero, List.set_cons_succ]
          refine wpAnyH_ready (rs := [2]) (by kernel_rfl) (by simp) ?_
          refine AllReadyH.cons (o := oI6_2) rfl (fun K hK => ?_) (AllReadyH.nil)
          dsimp only [oI6_2]
          go_simp
          refine (HA3.out _).mono ?_
          rintro e w4 ⟨rfl, hb4⟩
          have HI := Lib.hid (HI.out.below hb4)
          clear hb4
          go_simp
          refine hK.out _ _ ?_ (fun hHeld => ?_)
          · exact anyW _
          clear hK K
          try simp only [Act.put, List.setIfInBounds_toArray, List.set_cons_zero, List.set_cons_succ]
          refine wpAnyH_ready (rs := [5]) (by kernel_rfl) (by simp) ?_
          refine AllReadyH.cons (o := oI6_5) rfl (fun K hK => ?_) (AllReadyH.nil)
          dsimp only [oI6_5]
          go_simp
          refine (HA4.out _).mono ?_
          rintro e w4 ⟨rfl, hb4⟩
          have HI := Lib.hid (HI.out.below hb4)
          clear hb4
          go_simp
          refine hK.out _ _ ?_ (fun hHeld => ?_)
          · exact anyW _
          clear hK K
          try simp only [Act.put, List.setIfInBounds_toArray, List.set_cons_zero, List.set_cons_succ]
          refine wpAnyH_ready (rs := [6]) (by kernel_rfl) (by simp) ?_
          refine AllReadyH.cons (o := oI6_6) rfl (fun K hK => ?_) (AllReadyH.nil)
          dsimp only [oI6_6]
          simp only [Region.wanted, if_true]
          refine op_store_irow 24 (.tmp 3) (.tmp 21) rfl (g := G) (t := 24) (k := .u8) (xs := num q2) (ys := num q3) rfl rfl HI.out.rg (size_numN q3) (same_length _ _) ?_
          have HI := Lib.hid (HI.out.setG HG.out q3)
          refine hK.out _ _ ?_ (fun hHeld => ?_)
          · exact anyW _
          clear hK K
          try simp only [Act.put]
          refine wpAnyH_ready (rs := [7]) (by kernel_rfl) (by simp) ?_
          refine AllReadyH.cons (o := oI6_7) rfl (fun K hK => ?_) (AllReadyH.nil)
          dsimp only [oI6_7]
          simp only [Region.wanted, if_true]
          refine op_store_irow 24 (.tmp 4) (.tmp 24) rfl (g := G + 1) (t := 24) (k := .u8) (xs := num r2) (ys := num r3) rfl rfl HI.out.rr (size_numN r3) (same_length _ _) ?_
          have HI := Lib.hid (HI.out.setR HG.out r3)
          refine hK.out _ _ ?_ (fun hHeld => ?_)
          · exact anyW _
          clear hK K
          try simp only [Act.put]
          refine wpAnyH_done (by kernel_rfl) ?_ _
          exact HQ.out _ _ _ _ _ _ _ HI.out
      · as_aux_lemma =>
        dsimp only [oI6_4]
        simp only [Region.wanted, if_true]
        refine wp_load_mid 24 (.tmp 1) rfl w.heap.size 0 rfl ((num d).map (Value.int .u8)) _ HI.out.rd.range Tryd.underlying24 rfl (by rw [List.length_map]; exact size_numN d) ?_
        refine hK.out _ _ ?_ (fun hHeld => ?_)
        · exact anyW _
        clear hK K
        try simp only [Act.put, List.setIfInBounds_toArray, List.set_cons_zero, List.set_cons_succ]
        refine wpAnyH_ready (rs := [2, 3]) (by kernel_rfl) (by simp) ?_
        refine AllReadyH.cons (o := oI6_2) rfl (fun K hK => ?_) (AllReadyH.cons (o := oI6_3) rfl (fun K hK => ?_) (AllReadyH.nil))
        · as_aux_lemma =>
          dsimp only [oI6_2]
          go_simp
          refine (HA3.out _).mono ?_
          rintro e w4 ⟨rfl, hb4⟩
          have HI := Lib.hid (HI.out.below hb4)
          clear hb4
          go_simp
          refine hK.out _ _ ?_ (fun hHeld => ?_)
          · exact anyW _
          clear hK K
          try simp only [Act.put, List.setIfInBounds_toArray, List.set_cons_zero, List.set_cons_succ]
          refine wpAnyH_ready (rs := [3]) (by kernel_rfl) (by simp) ?_
          refine AllReadyH.cons (o := oI6_3) rfl (fun K hK => ?_) (AllReadyH.nil)
          dsimp only [oI6_3]
          simp only [Region.wanted, if_true]
          refine wp_load_mid 24 (.tmp 4) rfl (G + 1) 0 rfl ((num r2).map (Value.int .u8)) _ HI.out.rr.range Tryd.underlying24 rfl (by rw [List.length_map]; exact size_numN r2) ?_
          refine hK.out _ _ ?_ (fun hHeld => ?_)
          · exact anyW _
          clear hK K
          try simp only [Act.put, List.setIfInBounds_toArray, List.set_cons_zero, List.set_cons_succ]
          refine wpAnyH_ready (rs := [5]) (by kernel_rfl) (by simp) ?_
          refine AllReadyH.cons (o := oI6_5) rfl (fun K hK => ?_) (AllReadyH.nil)
          dsimp only [oI6_5]
          go_simp
          refine (HA4.out _).mono ?_
          rintro e w4 ⟨rfl, hb4⟩
          have HI := Lib.hid (HI.out.below hb4)
          clear hb4
          go_simp
          refine hK.out _ _ ?_ (fun hHeld => ?_)
          · exact anyW _
          clear hK K
          try simp only [Act.put, List.setIfInBounds_toArray, List.set_cons_zero, List.set_cons_succ]
          refine wpAnyH_ready (rs := [6]) (by kernel_rfl) (by simp) ?_
          refine AllReadyH.cons (o := oI6_6) rfl (fun K hK => ?_) (AllReadyH.nil)
          dsimp only [oI6_6]
          simp only [Region.wanted, if_true]
          refine op_store_irow 24 (.tmp 3) (.tmp 21) rfl (g := G) (t := 24) (k := .u8) (xs := num q2) (ys := num q3) rfl rfl HI.out.rg (size_numN q3) (same_length _ _) ?_
          have HI := Lib.hid (HI.out.setG HG.out q3)
          refine hK.out _ _ ?_ (fun hHeld => ?_)
          · exact anyW _
          clear hK K
          try simp only [Act.put]
          refine wpAnyH_ready (rs := [7]) (by kernel_rfl) (by simp) ?_
          refine AllReadyH.cons (o := oI6_7) rfl (fun K hK => ?_) (AllReadyH.nil)
          dsimp only [oI6_7]
          simp only [Region.wanted, if_true]
          refine op_store_irow 24 (.tmp 4) (.tmp 24) rfl (g := G + 1) (t := 24) (k := .u8) (xs := num r2) (ys := num r3) rfl rfl HI.out.rr (size_numN r3) (same_length _ _) ?_
          have HI := Lib.hid (HI.out.setR HG.out r3)
          refine hK.out _ _ ?_ (fun hHeld => ?_)
          · exact anyW _
          clear hK K
          try simp only [Act.put]
          refine wpAnyH_done (by kernel_rfl) ?_ _
          exact HQ.out _ _ _ _ _ _ _ HI.out
        · as_aux_lemma =>
          dsimp only [oI6_3]
          simp only [Region.wanted, if_true]
          refine wp_load_mid 24 (.tmp 4) rfl (G + 1) 0 rfl ((num r2).map (Value.int .u8)) _ HI.out.rr.range Tryd.underlying24 rfl (by rw [List.length_map]; exact size_numN r2) ?_
          refine hK.out _ _ ?_ (fun hHeld => ?_)
          · exact anyW _
          clear hK K
          try simp only [Act.put, List.setIfInBounds_toArray, List.set_cons_zero, List.set_cons_succ]
          refine wpAnyH_ready (rs := [2]) (by kernel_rfl) (by simp) ?_
          refine AllReadyH.cons (o := oI6_2) rfl (fun K hK => ?_) (AllReadyH.nil)
          dsimp only [oI6_2]
          go_simp
          refine (HA3.out _).mono ?_
          rintro e w4 ⟨rfl, hb4⟩
          have HI := Lib.hid (HI.out.below hb4)
          clear hb4
          go_simp
          refine hK.out _ _ ?_ (fun hHeld => ?_)
          · exact anyW _
          clear hK K
          try simp only [Act.put, List.setIfInBounds_toArray, List.set_cons_zero, List.set_cons_succ]
          refine wpAnyH_ready (rs := [5]) (by kernel_rfl) (by simp) ?_
          refine AllReadyH.cons (o := oI6_5) rfl (fun K hK => ?_) (AllReadyH.nil)
          dsimp only [oI6_5]
          go_simp
          refine (HA4.out _).mono ?_
          rintro e w4 ⟨rfl, hb4⟩
          have HI := Lib.hid (HI.out.below hb4)
          clear hb4
          go_simp
          refine hK.out _ _ ?_ (fun hHeld => ?_)
          · exact anyW _
          clear hK K
          try simp only [Act.put, List.setIfInBounds_toArray, List.set_cons_zero, List.set_cons_succ]
          refine wpAnyH_ready (rs := [6]) (by kernel_rfl) (by simp) ?_
          refine AllReadyH.cons (o := oI6_6) rfl (fun K hK => ?_) (AllReadyH.nil)
          dsimp only [oI6_6]
          simp only [Region.wanted, if_true]
          refine op_store_irow 24 (.tmp 3) (.tmp 21) rfl (g := G) (t := 24) (k := .u8) (xs := num q2) (ys := num q3) rfl rfl HI.out.rg (size_numN q3) (same_length _ _) ?_
          have HI := Lib.hid (HI.out.setG HG.out q3)
          refine hK.out _ _ ?_ (fun hHeld => ?_)
          · exact anyW _
          clear hK K
          try simp only [Act.put]
          refine wpAnyH_ready (rs := [7]) (by kernel_rfl) (by simp) ?_
          refine AllReadyH.cons (o := oI6_7) rfl (fun K hK => ?_) (AllReadyH.nil)
          dsimp only [oI6_7]
          simp only [Region.wanted, if_true]
          refine op_store_irow 24 (.tmp 4) (.tmp 24) rfl (g := G + 1) (t := 24) (k := .u8) (xs := num r2) (ys := num r3) rfl rfl HI.out.rr (size_numN r3) (same_length _ _) ?_
          have HI := Lib.hid (HI.out.setR HG.out r3)
          refine hK.out _ _ ?_ (fun hHeld => ?_)
          · exact anyW _
          clear hK K
          try simp only [Act.put]
          refine wpAnyH_done (by kernel_rfl) ?_ _
          exact HQ.out _ _ _ _ _ _ _ HI.out
    · as_aux_lemma =>
      dsimp only [oI6_3]
      simp only [Region.wanted, if_true]
      refine wp_load_mid 24 (.tmp 4) rfl (G + 1) 0 rfl ((num r2).map (Value.int .u8)) _ HI.out.rr.range Tryd.underlying24 rfl (by rw [List.length_map]; exact size_numN r2) ?_
      refine hK.out _ _ ?_ (fun hHeld => ?_)
      · exact anyW _
      clear hK K
      try simp only [Act.put, List.setIfInBounds_toArray, List.set_cons_zero, List.set_cons_succ]
      refine wpAnyH_ready (rs := [1, 4]) (by kernel_rfl) (by simp) ?_
      refine AllReadyH.cons (o := oI6_1) rfl (fun K hK => ?_) (AllReadyH.cons (o := oI6_4) rfl (fun K hK => ?_) (AllReadyH.nil))
      · as_aux_lemma =>
        dsimp only [oI6_1]
        go_simp
        refine (one_any _).mono ?_
        rintro e w4 ⟨rfl, hb4⟩
        have HI := Lib.hid (HI.out.below hb4)
        clear hb4
        go_simp
        refine hK.out _ _ ?_ (fun hHeld => ?_)
        · exact anyW _
        clear hK K
        try simp only [Act.put, List.setIfInBounds_toArray, List.set_cons_zero, List.set_cons_succ]
        refine wpAnyH_ready (rs := [2, 4]) (by kernel_rfl) (by simp) ?_
        refine AllReadyH.cons (o := oI6_2) rfl (fun K hK => ?_) (AllReadyH.cons (o := oI6_4) rfl (fun K hK => ?_) (AllReadyH.nil))
        · as_aux_lemma =>
          dsimp only [oI6_2]
          go_simp
          refine (HA3.out _).mono ?_
          rintro e w4 ⟨rfl, hb4⟩
          have HI := Lib.hid (HI.out.below hb4)
          clear hb4
          go_simp
          refine hK.out _ _ ?_ (fun hHeld => ?_)
          · exact anyW _
          clear hK K
          try simp only [Act.put, List.setIfInBounds_toArray, List.set_cons_zero, List.set_cons_succ]
          refine wpAnyH_ready (rs := [4]) (by kernel_rfl) (by simp) ?_
          refine AllReadyH.cons (o := oI6_4) rfl (fun K hK => ?_) (AllReadyH.nil)
          dsimp only [oI6_4]
          simp only [Region.wanted, if_true]
          refine wp_load_mid 24 (.tmp 1) rfl w.heap.size 0 rfl ((num d).map (Value.int .u8)) _ HI.out.rd.range Tryd.underlying24 rfl (by rw [List.length_map]; exact size_numN d) ?_
          refine hK.out _ _ ?_ (fun hHeld => ?_)
          · exact anyW _
          clear hK K
          try simp only [Act.put, List.setIfInBounds_toArray, List.set_cons_zero, List.set_cons_succ]
          refine wpAnyH_ready (rs := [5]) (by kernel_rfl) (by simp) ?_
          refine AllReadyH.cons (o := oI6_5) rfl (fun K hK => ?_) (AllReadyH.nil)
          dsimp only [oI6_5]
          go_simp
          refine (HA4.out _).mono ?_
          rintro e w4 ⟨rfl, hb4⟩
          have HI := Lib.hid (HI.out.below hb4)
          clear hb4
          go_simp
          refine hK.out _ _ ?_ (fun hHeld => ?_)
          · exact anyW _
          clear hK K
          try simp only [Act.put, List.setIfInBounds_toArray, List.set_cons_zero, List.set_cons_succ]
          refine wpAnyH_ready (rs := [6]) (by kernel_rfl) (by simp) ?_
          refine AllReadyH.cons (o := oI6_6) rfl (fun K hK => ?_) (AllReadyH.nil)
          dsimp only [oI6_6]
          simp only [Region.wanted, if_true]
          refine op_store_irow 24 (.tmp 3) (.tmp 21) rfl (g := G) (t := 24) (k := .u8) (xs := num q2) (ys := num q3) rfl rfl HI.out.rg (size_numN q3) (same_length _ _) ?_
          have HI := Lib.hid (HI.out.setG HG.out q3)
          refine hK.out _ _ ?_ (fun hHeld => ?_)
          · exact anyW _
          clear hK K
          try simp only [Act.put]
          refine wpAnyH_ready (rs := [7]) (by kernel_rfl) (by simp) ?_
          refine AllReadyH.cons (o := oI6_7) rfl (fun K hK => ?_) (AllReadyH.nil)
          dsimp only [oI6_7]
          simp only [Region.wanted, if_true]
          refine op_store_irow 24 (.tmp 4) (.tmp 24) rfl (g := G + 1) (t := 24) (k := .u8) (xs := num r2) (ys := num r3) rfl rfl HI.out.rr (size_numN r3) (same_length _ _) ?_
          have HI := Lib.hid (HI.out.setR HG.out r3)
          refine hK.out _ _ ?_ (fun hHeld => ?_)
          · exact anyW _
          clear hK K
          try simp only [Act.put]
          refine wpAnyH_done (by kernel_rfl) ?_ _
          exact HQ.out _ _ _ _ _ _ _ HI.out
        · as_aux_lemma =>
          dsimp only [oI6_4]
          simp only [Region.wanted, if_true]
          refine wp_load_mid 24 (.tmp 1) rfl w.heap.size 0 rfl ((num d).map (Value.int .u8)) _ HI.out.rd.range Tryd.underlying24 rfl (by rw [List.length_map]; exact size_numN d) ?_
          refine hK.out _ _ ?_ (fun hHeld => ?_)
          · exact anyW _
          clear hK K
          try simp only [Act.put, List.setIfInBounds_toArray, List.set_cons_zero, List.set_cons_succ]
          refine wpAnyH_ready (rs := [2]) (by kernel_rfl) (by simp) ?_
          refine AllReadyH.cons (o := oI6_2) rfl (fun K hK => ?_) (AllReadyH.nil)
          dsimp only [oI6_2]
          go_simp
          refine (HA3.out _).mono ?_
          rintro e w4 ⟨rfl, hb4⟩
          have HI := Lib.hid (HI.out.below hb4)
          clear hb4
          go_simp
          refine hK.out _ _ ?_ (fun hHeld => ?_)
          · exact anyW _
          clear hK K
          try simp only [Act.put, List.setIfInBounds_toArray, List.set_cons_zero, List.set_cons_succ]
          refine wpAnyH_ready (rs := [5]) (by kernel_rfl) (by simp) ?_
          refine AllReadyH.cons (o := oI6_5) rfl (fun K hK => ?_) (AllReadyH.nil)
          dsimp only [oI6_5]
          go_simp
          refine (HA4.out _).mono ?_
          rintro e w4 ⟨rfl, hb4⟩
          have HI := Lib.hid (HI.out.below hb4)
          clear hb4
          go_simp
          refine hK.out _ _ ?_ (fun hHeld => ?_)
          · exact anyW _
          clear hK K
          try simp only [Act.put, List.setIfInBounds_toArray, List.set_cons_zero, List.set_cons_succ]
          refine wpAnyH_ready (rs := [6]) (by kernel_rfl) (by simp) ?_
          refine AllReadyH.cons (o := oI6_6) rfl (fun K hK => ?_) (AllReadyH.nil)
          dsimp only [oI6_6]
          simp only [Region.wanted, if_true]
          refine op_store_irow 24 (.tmp 3) (.tmp 21) rfl (g := G) (t := 24) (k := .u8) (xs := num q2) (ys := num q3) rfl rfl HI.out.rg (size_numN q3) (same_length _ _) ?_
          have HI := Lib.hid (HI.out.setG HG.out q3)
          refine hK.out _ _ ?_ (fun hHeld => ?_)
          · exact anyW _
          clear hK K
          try simp only [Act.put]
          refine wpAnyH_ready (rs := [7]) (by kernel_rfl) (by simp) ?_
          refine AllReadyH.cons (o := oI6_7) rfl (fun K hK => ?_) (AllReadyH.nil)
          dsimp only [oI6_7]
          simp only [Region.wanted, if_true]
          refine op_store_irow 24 (.tmp 4) (.tmp 24) rfl (g := G + 1) (t := 24) (k := .u8) (xs := num r2) (ys := num r3) rfl rfl HI.out.rr (size_numN r3) (same_length _ _) ?_
          have HI := Lib.hid (HI.out.setR HG.out r3)
          refine hK.out _ _ ?_ (fun hHeld => ?_)
          · exact anyW _
          clear hK K
          try simp only [Act.put]
          refine wpAnyH_done (by kernel_rfl) ?_ _
          exact HQ.out _ _ _ _ _ _ _ HI.out
      · as_aux_lemma =>
        dsimp only [oI6_4]
        simp only [Region.wanted, if_true]
        refine wp_load_mid 24 (.tmp 1) rfl w.heap.size 0 rfl ((num d).map (Value.int .u8)) _ HI.out.rd.range Tryd.underlying24 rfl (by rw [List.length_map]; exact size_numN d) ?_
        refine hK.out _ _ ?_ (fun hHeld => ?_)
        · exact anyW _
        clear hK K
        try simp only [Act.put, List.setIfInBounds_toArray, List.set_cons_zero, List.set_cons_succ]
        refine wpAnyH_ready (rs := [1]) (by kernel_rfl) (by simp) ?_
        refine AllReadyH.cons (o := oI6_1) rfl (fun K hK => ?_) (AllReadyH.nil)
        dsimp only [oI6_1]
        go_simp
        refine (one_any _).mono ?_
        rintro e w4 ⟨rfl, hb4⟩
        have HI := Lib.hid (HI.out.below hb4)
        clear hb4
        go_simp
        refine hK.out _ _ ?_ (fun hHeld => ?_)
        · exact anyW _
        clear hK K
        try simp only [Act.put, List.setIfInBounds_toArray, List.set_cons_zero, List.set_cons_succ]
        refine wpAnyH_ready (rs := [2]) (by kernel_rfl) (by simp) ?_
        refine AllReadyH.cons (o := oI6_2) rfl (fun K hK => ?_) (AllReadyH.nil)
        dsimp only [oI6_2]
        go_simp
        refine (HA3.out _).mono ?_
        rintro e w4 ⟨rfl, hb4⟩
        have HI := Lib.hid (HI.out.below hb4)
        clear hb4
        go_simp
        refine hK.out _ _ ?_ (fun hHeld => ?_)
        · exact anyW _
        clear hK K
        try simp only [Act.put, List.setIfInBounds_toArray, List.set_cons_zero, List.set_cons_succ]
        refine wpAnyH_ready (rs := [5]) (by kernel_rfl) (by simp) ?_
        refine AllReadyH.cons (o := oI6_5) rfl (fun K hK => ?_) (AllReadyH.nil)
        dsimp only [oI6_5]
        go_simp
        refine (HA4.out _).mono ?_
        rintro e w4 ⟨rfl, hb4⟩
        have HI := Lib.hid (HI.out.below hb4)
        clear hb4
        go_simp
        refine hK.out _ _ ?_ (fun hHeld => ?_)
        · exact anyW _
        clear hK K
        try simp only [Act.put, List.setIfInBounds_toArray, List.set_cons_zero, List.set_cons_succ]
        refine wpAnyH_ready (rs := [6]) (by kernel_rfl) (by simp) ?_
        refine AllReadyH.cons (o := oI6_6) rfl (fun K hK => ?_) (AllReadyH.nil)
        dsimp only [oI6_6]
        simp only [Region.wanted, if_true]
        refine op_store_irow 24 (.tmp 3) (.tmp 21) rfl (g := G) (t := 24) (k := .u8) (xs := num q2) (ys := num q3) rfl rfl HI.out.rg (size_numN q3) (same_length _ _) ?_
        have HI := Lib.hid (HI.out.setG HG.out q3)
        refine hK.out _ _ ?_ (fun hHeld => ?_)
        · exact anyW _
        clear hK K
        try simp only [Act.put]
        refine wpAnyH_ready (rs := [7]) (by kernel_rfl) (by simp) ?_
        refine AllReadyH.cons (o := oI6_7) rfl (fun K hK => ?_) (AllReadyH.nil)
        dsimp only [oI6_7]
        simp only [Region.wanted, if_true]
        refine op_store_irow 24 (.tmp 4) (.tmp 24) rfl (g := G + 1) (t := 24) (k := .u8) (xs := num r2) (ys := num r3) rfl rfl HI.out.rr (size_numN r3) (same_length _ _) ?_
        have HI := Lib.hid (HI.out.setR HG.out r3)
        refine hK.out _ _ ?_ (fun hHeld => ?_)
        · exact anyW _
        clear hK K
        try simp only [Act.put]
        refine wpAnyH_done (by kernel_rfl) ?_ _
        exact HQ.out _ _ _ _ _ _ _ HI.out
    · as_aux_lemma =>
      dsimp only [oI6_4]
      simp only [Region.wanted, if_true]
      refine wp_load_mid 24 (.tmp 1) rfl w.heap.size 0 rfl ((num d).map (Value.int .u8)) _ HI.out.rd.range Tryd.underlying24 rfl (by rw [List.length_map]; exact size_numN d) ?_
      refine hK.out _ _ ?_ (fun hHeld => ?_)
      · exact anyW _
      clear hK K
      try simp only [Act.put, List.setIfInBounds_toArray, List.set_cons_zero, List.set_cons_succ]
      refine wpAnyH_ready (rs := [1, 3]) (by kernel_rfl) (by simp) ?_
      refine AllReadyH.cons (o := oI6_1) rfl (fun K hK => ?_) (AllReadyH.cons (o := oI6_3) rfl (fun K hK => ?_) (AllReadyH.nil))
      · as_aux_lemma =>
        dsimp only [oI6_1]
        go_simp
        refine (one_any _).mono ?_
        rintro e w4 ⟨rfl, hb4⟩
        have HI := Lib.hid (HI.out.below hb4)
        clear hb4
        go_simp
        refine hK.out _ _ ?_ (fun hHeld => ?_)
        · exact anyW _
        clear hK K
        try simp only [Act.put, List.setIfInBounds_toArray, List.set_cons_zero, List.set_cons_succ]
        refine wpAnyH_ready (rs := [2, 3]) (by kernel_rfl) (by simp) ?_
        refine AllReadyH.cons (o := oI6_2) rfl (fun K hK => ?_) (AllReadyH.cons (o := oI6_3) rfl (fun K hK => ?_) (AllReadyH.nil))
        · as_aux_lemma =>
          dsimp only [oI6_2]
          go_simp
          refine (HA3.out _).mono ?_
          rintro e w4 ⟨rfl, hb4⟩
          have HI := Lib.hid (HI.out.below hb4)
          clear hb4
          go_simp
          refine hK.out _ _ ?_ (fun hHeld => ?_)
          · exact anyW _
          clear hK K
          try simp only [Act.put, List.setIfInBounds_toArray, List.set_cons_zero, List.set_cons_succ]
          refine wpAnyH_ready (rs := [3]) (by kernel_rfl) (by simp) ?_
          refine AllReadyH.cons (o := oI6_3) rfl (fun K hK => ?_) (AllReadyH.nil)
          dsimp only [oI6_3]
          simp only [Region.wanted, if_true]
          refine wp_load_mid 24 (.tmp 4) rfl (G + 1) 0 rfl ((num r2).map (Value.int .u8)) _ HI.out.rr.range Tryd.underlying24 rfl (by rw [List.length_map]; exact size_numN r2) ?_
          refine hK.out _ _ ?_ (fun hHeld => ?_)
          · exact anyW _
          clear hK K
          try simp only [Act.put, List.setIfInBounds_toArray, List.set_cons_zero, List.set_cons_succ]
          refine wpAnyH_ready (rs := [5]) (by kernel_rfl) (by simp) ?_
          refine AllReadyH.cons (o := oI6_5) rfl (fun K hK => ?_) (AllReadyH.nil)
          dsimp only [oI6_5]
          go_simp
          refine (HA4.out _).mono ?_
          rintro e w4 ⟨rfl, hb4⟩
          have HI := Lib.hid (HI.out.below hb4)
          clear hb4
          go_simp
          refine hK.out _ _ ?_ (fun hHeld => ?_)
          · exact anyW _
          clear hK K
          try simp only [Act.put, List.setIfInBounds_toArray, List.set_cons_zero, List.set_cons_succ]
          refine wpAnyH_ready (rs := [6]) (by kernel_rfl) (by simp) ?_
          refine AllReadyH.cons (o := oI6_6) rfl (fun K hK => ?_) (AllReadyH.nil)
          dsimp only [oI6_6]
          simp only [Region.wanted, if_true]
          refine op_store_irow 24 (.tmp 3) (.tmp 21) rfl (g := G) (t := 24) (k := .u8) (xs := num q2) (ys := num q3) rfl rfl HI.out.rg (size_numN q3) (same_length _ _) ?_
          have HI := Lib.hid (HI.out.setG HG.out q3)
          refine hK.out _ _ ?_ (fun hHeld => ?_)
          · exact anyW _
          clear hK K
          try simp only [Act.put]
          refine wpAnyH_ready (rs := [7]) (by kernel_rfl) (by simp) ?_
          refine AllReadyH.cons (o := oI6_7) rfl (fun K hK => ?_) (AllReadyH.nil)
          dsimp only [oI6_7]
          simp only [Region.wanted, if_true]
          refine op_store_irow 24 (.tmp 4) (.tmp 24) rfl (g := G + 1) (t := 24) (k := .u8) (xs := num r2) (ys := num r3) rfl rfl HI.out.rr (size_numN r3) (same_length _ _) ?_
          have HI := Lib.hid (HI.out.setR HG.out r3)
          refine hK.out _ _ ?_ (fun hHeld => ?_)
          · exact anyW _
          clear hK K
          try simp only [Act.put]
          refine wpAnyH_done (by kernel_rfl) ?_ _
          exact HQ.out _ _ _ _ _ _ _ HI.out
        · as_aux_lemma =>
          dsimp only [oI6_3]
          simp only [Region.wanted, if_true]
          refine wp_load_mid 24 (.tmp 4) rfl (G + 1) 0 rfl ((num r2).map (Value.int .u8)) _ HI.out.rr.range Tryd.underlying24 rfl (by rw [List.length_map]; exact size_numN r2) ?_
          refine hK.out _ _ ?_ (fun hHeld => ?_)
          · exact anyW _
          clear hK K
          try simp only [Act.put, List.setIfInBounds_toArray, List.set_cons_zero, List.set_cons_succ]
          refine wpAnyH_ready (rs := [2]) (by kernel_rfl) (by simp) ?_
          refine AllReadyH.cons (o := oI6_2) rfl (fun K hK => ?_) (AllReadyH.nil)
          dsimp only [oI6_2]
          go_simp
          refine (HA3.out _).mono ?_
          rintro e w4 ⟨rfl, hb4⟩
          have HI := Lib.hid (HI.out.below hb4)
          clear hb4
          go_simp
          refine hK.out _ _ ?_ (fun hHeld => ?_)
          · exact anyW _
          clear hK K
          try simp only [Act.put, List.setIfInBounds_toArray, List.set_cons_zero, List.set_cons_succ]
          refine wpAnyH_ready (rs := [5]) (by kernel_rfl) (by simp) ?_
          refine AllReadyH.cons (o := oI6_5) rfl (fun K hK => ?_) (AllReadyH.nil)
          dsimp only [oI6_5]
          go_simp
          refine (HA4.out _).mono ?_
          rintro e w4 ⟨rfl, hb4⟩
          have HI := Lib.hid (HI.out.below hb4)
          clear hb4
          go_simp
          refine hK.out _ _ ?_ (fun hHeld => ?_)
          · exact anyW _
          clear hK K
          try simp only [Act.put, List.setIfInBounds_toArray, List.set_cons_zero, List.set_cons_succ]
          refine wpAnyH_ready (rs := [6]) (by kernel_rfl) (by simp) ?_
          refine AllReadyH.cons (o := oI6_6) rfl (fun K hK => ?_) (AllReadyH.nil)
          dsimp only [oI6_6]
          simp only [Region.wanted, if_true]
          refine op_store_irow 24 (.tmp 3) (.tmp 21) rfl (g := G) (t := 24) (k := .u8) (xs := num q2) (ys := num q3) rfl rfl HI.out.rg (size_numN q3) (same_length _ _) ?_
          have HI := Lib.hid (HI.out.setG HG.out q3)
          refine hK.out _ _ ?_ (fun hHeld => ?_)
          · exact anyW _
          clear hK K
          try simp only [Act.put]
          refine wpAnyH_ready (rs := [7]) (by kernel_rfl) (by simp) ?_
          refine AllReadyH.cons (o := oI6_7) rfl (fun K hK => ?_) (AllReadyH.nil)
          dsimp only [oI6_7]
          simp only [Region.wanted, if_true]
          refine op_store_irow 24 (.tmp 4) (.tmp 24) rfl (g := G + 1) (t := 24) (k := .u8) (xs := num r2) (ys := num r3) rfl rfl HI.out.rr (size_numN r3) (same_length _ _) ?_
          have HI := Lib.hid (HI.out.setR HG.out r3)
          refine hK.out _ _ ?_ (fun hHeld => ?_)
          · exact anyW _
          clear hK K
          try simp only [Act.put]
          refine wpAnyH_done (by kernel_rfl) ?_ _
          exact HQ.out _ _ _ _ _ _ _ HI.out
      · as_aux_lemma =>
        dsimp only [oI6_3]
        simp only [Region.wanted, if_true]
        refine wp_load_mid 24 (.tmp 4) rfl (G + 1) 0 rfl ((num r2).map (Value.int .u8)) _ HI.out.rr.range Tryd.underlying24 rfl (by rw [List.length_map]; exact size_numN r2) ?_
        refine hK.out _ _ ?_ (fun hHeld => ?_)
        · exact anyW _
        clear hK K
        try simp only [Act.put, List.setIfInBounds_toArray, List.set_cons_zero, List.set_cons_succ]
        refine wpAnyH_ready (rs := [1]) (by kernel_rfl) (by simp) ?_
        refine AllReadyH.cons (o := oI6_1) rfl (fun K hK => ?_) (AllReadyH.nil)
        dsimp only [oI6_1]
        go_simp
        refine (one_any _).mono ?_
        rintro e w4 ⟨rfl, hb4⟩
        have HI := Lib.hid (HI.out.below hb4)
        clear hb4
        go_simp
        refine hK.out _ _ ?_ (fun hHeld => ?_)
        · exact anyW _
        clear hK K
        try simp only [Act.put, List.setIfInBounds_toArray, List.set_cons_zero, List.set_cons_succ]
        refine wpAnyH_ready (rs := [2]) (by kernel_rfl) (by simp) ?_
        refine AllReadyH.cons (o := oI6_2) rfl (fun K hK => ?_) (AllReadyH.nil)
        dsimp only [oI6_2]
        go_simp
        refine (HA3.out _).mono ?_
        rintro e w4 ⟨rfl, hb4⟩
        have HI := Lib.hid (HI.out.below hb4)
        clear hb4
        go_simp
        refine hK.out _ _ ?_ (fun hHeld => ?_)
        · exact anyW _
        clear hK K
        try simp only [Act.put, List.setIfInBounds_toArray, List.set_cons_zero, List.set_cons_succ]
        refine wpAnyH_ready (rs := [5]) (by kernel_rfl) (by simp) ?_
        refine AllReadyH.cons (o := oI6_5) rfl (fun K hK => ?_) (AllReadyH.nil)
        dsimp only [oI6_5]
        go_simp
        refine (HA4.out _).mono ?_
        rintro e w4 ⟨rfl, hb4⟩
        have HI := Lib.hid (HI.out.below hb4)
        clear hb4
        go_simp
        refine hK.out _ _ ?_ (fun hHeld => ?_)
        · exact anyW _
        clear hK K
        try simp only [Act.put, List.setIfInBounds_toArray, List.set_cons_zero, List.set_cons_succ]
        refine wpAnyH_ready (rs := [6]) (by kernel_rfl) (by simp) ?_
        refine AllReadyH.cons (o := oI6_6) rfl (fun K hK => ?_) (AllReadyH.nil)
        dsimp only [oI6_6]
        simp only [Region.wanted, if_true]
        refine op_store_irow 24 (.tmp 3) (.tmp 21) rfl (g := G) (t := 24) (k := .u8) (xs := num q2) (ys := num q3) rfl rfl HI.out.rg (size_numN q3) (same_length _ _) ?_
        have HI := Lib.hid (HI.out.setG HG.out q3)
        refine hK.out _ _ ?_ (fun hHeld => ?_)
        · exact anyW _
        clear hK K
        try simp only [Act.put]
        refine wpAnyH_ready (rs := [7]) (by kernel_rfl) (by simp) ?_
        refine AllReadyH.cons (o := oI6_7) rfl (fun K hK => ?_) (AllReadyH.nil)
        dsimp only [oI6_7]
        simp only [Region.wanted, if_true]
        refine op_store_irow 24 (.tmp 4) (.tmp 24) rfl (g := G + 1) (t := 24) (k := .u8) (xs := num r2) (ys := num r3) rfl rfl HI.out.rr (size_numN r3) (same_length _ _) ?_
        have HI := Lib.hid (HI.out.setR HG.out r3)
        refine hK.out _ _ ?_ (fun hHeld => ?_)
        · exact anyW _
        clear hK K
        try simp only [Act.put]
        refine wpAnyH_done (by kernel_rfl) ?_ _
        exact HQ.out _ _ _ _ _ _ _ HI.out
  · as_aux_lemma =>
    dsimp only [oI6_1]
    go_simp
    refine (one_any _).mono ?_
    rintro e w4 ⟨rfl, hb4⟩
    have HI := Lib.hid (HI.out.below hb4)
    clear hb4
    go_simp
    refine hK.out _ _ ?_ (fun hHeld => ?_)
    · exact anyW _
    clear hK K
    try simp only [Act.put, List.setIfInBounds_toArray, List.set_cons_zero, List.set_cons_succ]
    refine wpAnyH_ready (rs := [0, 3, 4]) (by kernel_rfl) (by simp) ?_
    refine AllReadyH.cons (o := oI6_0) rfl (fun K hK => ?_) (AllReadyH.cons (o := oI6_3) rfl (fun K hK => ?_) (AllReadyH.cons (o := oI6_4) rfl (fun K hK => ?_) (AllReadyH.nil)))
    · as_aux_lemma =>
      dsimp only [oI6_0]
      simp only [Region.wanted, if_true]
      refine wp_load_mid 24 (.tmp 3) rfl G 0 rfl ((num q2).map (Value.int .u8)) _ HI.out.rg.range Tryd.underlying24 rfl (by rw [List.length_map]; exact size_numN q2) ?_
      refine hK.out _ _ ?_ (fun hHeld => ?_)
      · exact anyW _
      clear hK K
      try simp only [Act.put, List.setIfInBounds_toArray, List.set_cons_zero, List.set_cons_succ]
      refine wpAnyH_ready (rs := [2, 3, 4]) (by kernel_rfl) (by simp) ?_
      refine AllReadyH.cons (o := oI6_2) rfl (fun K hK => ?_) (AllReadyH.cons (o := oI6_3) rfl (fun K hK => ?_) (AllReadyH.cons (o := oI6_4) rfl (fun K hK => ?_) (AllReadyH.nil)))
      · as_aux_lemma =>
        dsimp only [oI6_2]
        go_simp
        refine (HA3.out _).mono ?_
        rintro e w4 ⟨rfl, hb4⟩
        have HI := Lib.hid (HI.out.below hb4)
        clear hb4
        go_simp
        refine hK.out _ _ ?_ (fun hHeld => ?_)
        · exact anyW _
        clear hK K
        try simp only [Act.put, List.setIfInBounds_toArray, List.set_cons_zero, List.set_cons_succ]
        refine wpAnyH_ready (rs := [3, 4]) (by kernel_rfl) (by simp) ?_
        refine AllReadyH.cons (o := oI6_3) rfl (fun K hK => ?_) (AllReadyH.cons (o := oI6_4) rfl (fun K hK => ?_) (AllReadyH.nil))
        · as_aux_lemma =>
          dsimp only [oI6_3]
          simp only [Region.wanted, if_true]
          refine wp_load_mid 24 (.tmp 4) rfl (G + 1) 0 rfl ((num r2).map (Value.int .u8)) _ HI.out.rr.range Tryd.underlying24 rfl (by rw [List.length_map]; exact size_numN r2) ?_
          refine hK.out _ _ ?_ (fun hHeld => ?_)
          · exact anyW _
          clear hK K
          try simp only [Act.put, List.setIfInBounds_toArray, List.set_cons_zero, List.set_cons_succ]
          refine wpAnyH_ready (rs := [4]) (by kernel_rfl) (by simp) ?_
          refine AllReadyH.cons (o := oI6_4) rfl (fun K hK => ?_) (AllReadyH.nil)
          dsimp only [oI6_4]
          simp only [Region.wanted, if_true]
          refine wp_load_mid 24 (.tmp 1) rfl w.heap.size 0 rfl ((num d).map (Value.int .u8)) _ HI.out.rd.range Tryd.underlying24 rfl (by rw [List.length_map]; exact size_numN d) ?_
          refine hK.out _ _ ?_ (fun hHeld => ?_)
          · exact anyW _
          clear hK K
          try simp only [Act.put, List.setIfInBounds_toArray, List.set_cons_zero, List.set_cons_succ]
          refine wpAnyH_ready (rs := [5]) (by kernel_rfl) (by simp) ?_
          refine AllReadyH.cons (o := oI6_5) rfl (fun K hK => ?_) (AllReadyH.nil)
          dsimp only [oI6_5]
          go_simp
          refine (HA4.out _).mono ?_
          rintro e w4 ⟨rfl, hb4⟩
          have HI := Lib.hid (HI.out.below hb4)
          clear hb4
          go_simp
          refine hK.out _ _ ?_ (fun hHeld => ?_)
          · exact anyW _
          clear hK K
          try simp only [Act.put, List.setIfInBounds_toArray, List.set_cons_zero, List.set_cons_succ]
          refine wpAnyH_ready (rs := [6]) (by kernel_rfl) (by simp) ?_
          refine AllReadyH.cons (o := oI6_6) rfl (fun K hK => ?_) (AllReadyH.nil)
          dsimp only [oI6_6]
          simp only [Region.wanted, if_true]
          refine op_store_irow 24 (.tmp 3) (.tmp 21) rfl (g := G) (t := 24) (k := .u8) (xs := num q2) (ys := num q3) rfl rfl HI.out.rg (size_numN q3) (same_length _ _) ?_
          have HI := Lib.hid (HI.out.setG HG.out q3)
          refine hK.out _ _ ?_ (fun hHeld => ?_)
          · exact anyW _
          clear hK K
          try simp only [Act.put]
          refine wpAnyH_ready (rs := [7]) (by kernel_rfl) (by simp) ?_
          refine AllReadyH.cons (o := oI6_7) rfl (fun K hK => ?_) (AllReadyH.nil)
          dsimp only [oI6_7]
          simp only [Region.wanted, if_true]
          refine op_store_irow 24 (.tmp 4) (.tmp 24) rfl (g := G + 1) (t := 24) (k := .u8) (xs := num r2) (ys := num r3) rfl rfl HI.out.rr (size_numN r3) (same_length _ _) ?_
          have HI := Lib.hid (HI.out.setR HG.out r3)
          refine hK.out _ _ ?_ (fun hHeld => ?_)
          · exact anyW _
          clear hK K
          try simp only [Act.put]
          refine wpAnyH_done (by kernel_rfl) ?_ _
          exact HQ.out _ _ _ _ _ _ _ HI.out
        · as_aux_lemma =>
          dsimp only [oI6_4]
          simp only [Region.wanted, if_true]
          refine wp_load_mid 24 (.tmp 1) rfl w.heap.size 0 rfl ((num d).map (Value.int .u8)) _ HI.out.rd.range Tryd.underlying24 rfl (by rw [List.length_map]; exact size_numN d) ?_
          refine hK.out _ _ ?_ (fun hHeld => ?_)
          · exact anyW _
          clear hK K
          try simp only [Act.put, List.setIfInBounds_toArray, List.set_cons_zero, List.set_cons_succ]
          refine wpAnyH_ready (rs := [3]) (by kernel_rfl) (by simp) ?_
          refine AllReadyH.cons (o := oI6_3) rfl (fun K hK => ?_) (AllReadyH.nil)
          dsimp only [oI6_3]
          simp only [Region.wanted, if_true]
          refine wp_load_mid 24 (.tmp 4) rfl (G + 1) 0 rfl ((num r2).map (Value.int .u8)) _ HI.out.rr.range Tryd.underlying24 rfl (by rw [List.length_map]; exact size_numN r2) ?_
          refine hK.out _ _ ?_ (fun hHeld => ?_)
          · exact anyW _
          clear hK K
          try simp only [Act.put, List.setIfInBounds_toArray, List.set_cons_zero, List.set_cons_succ]
          refine wpAnyH_ready (rs := [5]) (by kernel_rfl) (by simp) ?_
          refine AllReadyH.cons (o := oI6_5) rfl (fun K hK => ?_) (AllReadyH.nil)
          dsimp only [oI6_5]
          go_simp
          refine (HA4.out _).mono ?_
          rintro e w4 ⟨rfl, hb4⟩
          have HI := Lib.hid (HI.out.below hb4)
          clear hb4
          go_simp
          refine hK.out _ _ ?_ (fun hHeld => ?_)
          · exact anyW _
          clear hK K
          try simp only [Act.put, List.setIfInBounds_toArray, List.set_cons_zero, List.set_cons_succ]
          refine wpAnyH_ready (rs := [6]) (by kernel_rfl) (by simp) ?_
          refine AllReadyH.cons (o := oI6_6) rfl (fun K hK => ?_) (AllReadyH.nil)
          dsimp only [oI6_6]
          simp only [Region.wanted, if_true]
          refine op_store_irow 24 (.tmp 3) (.tmp 21) rfl (g := G) (t := 24) (k := .u8) (xs := num q2) (ys := num q3) rfl rfl HI.out.rg (size_numN q3) (same_length _ _) ?_
          have HI := Lib.hid (HI.out.setG HG.out q3)
          refine hK.out _ _ ?_ (fun hHeld => ?_)
          · exact anyW _
          clear hK K
          try simp only [Act.put]
          refine wpAnyH_ready (rs := [7]) (by kernel_rfl) (by simp) ?_
          refine AllReadyH.cons (o := oI6_7) rfl (fun K hK => ?_) (AllReadyH.nil)
          dsimp only [oI6_7]
          simp only [Region.wanted, if_true]
          refine op_store_irow 24 (.tmp 4) (.tmp 24) rfl (g := G + 1) (t := 24) (k := .u8) (xs := num r2) (ys := num r3) rfl rfl HI.out.rr (size_numN r3) (same_length _ _) ?_
          have HI := Lib.hid (HI.out.setR HG.out r3)
          refine hK.out _ _ ?_ (fun hHeld => ?_)
          · exact anyW _
          clear hK K
          try simp only [Act.put]
          refine wpAnyH_done (by kernel_rfl) ?_ _
          exact HQ.out _ _ _ _ _ _ _ HI.out
      · as_aux_lemma =>
        dsimp only [oI6_3]
        simp only [Region.wanted, if_true]
        refine wp_load_mid 24 (.tmp 4) rfl (G + 1) 0 rfl ((num r2).map (Value.int .u8)) _ HI.out.rr.range Tryd.underlying24 rfl (by rw [List.length_map]; exact size_numN r2) ?_
        refine hK.out _ _ ?_ (fun hHeld => ?_)
        · exact anyW _
        clear hK K
        try simp only [Act.put, List.setIfInBounds_toArray, List.set_cons_zero, List.set_cons_succ]
        refine wpAnyH_ready (rs := [2, 4]) (by kernel_rfl) (by simp) ?_
        refine AllReadyH.cons (o := oI6_2) rfl (fun K hK => ?_) (AllReadyH.cons (o := oI6_4) rfl (fun K hK => ?_) (AllReadyH.nil))
        · as_aux_lemma =>
          dsimp only [oI6_2]
          go_simp
          refine (HA3.out _).mono ?_
          rintro e w4 ⟨rfl, hb4⟩
          have HI := Lib.hid (HI.out.below hb4)
          clear hb4
          go_simp
          refine hK.out _ _ ?_ (fun hHeld => ?_)
          · exact anyW _
          clear hK K
          try simp only [Act.put, List.setIfInBounds_toArray, List.set_cons_zero, List.set_cons_succ]
          refine wpAnyH_ready (rs := [4]) (by kernel_rfl) (by simp) ?_
          refine AllReadyH.cons (o := oI6_4) rfl (fun K hK => ?_) (AllReadyH.nil)
          dsimp only [oI6_4]
          simp only [Region.wanted, if_true]
          refine wp_load_mid 24 (.tmp 1) rfl w.heap.size 0 rfl ((num d).map (Value.int .u8)) _ HI.out.rd.range Tryd.underlying24 rfl (by rw [List.length_map]; exact size_numN d) ?_
          refine hK.out _ _ ?_ (fun hHeld => ?_)
          · exact anyW _
          clear hK K
          try simp only [Act.put, List.setIfInBounds_toArray, List.set_cons_zero, List.set_cons_succ]
          refine wpAnyH_ready (rs := [5]) (by kernel_rfl) (by simp) ?_
          refine AllReadyH.cons (o := oI6_5) rfl (fun K hK => ?_) (AllReadyH.nil)
          dsimp only [oI6_5]
          go_simp
          refine (HA4.out _).mono ?_
          rintro e w4 ⟨rfl, hb4⟩
          have HI := Lib.hid (HI.out.below hb4)
          clear hb4
          go_simp
          refine hK.out _ _ ?_ (fun hHeld => ?_)
          · exact anyW _
          clear hK K
          try simp only [Act.put, List.setIfInBounds_toArray, List.set_cons_zero, List.set_cons_succ]
          refine wpAnyH_ready (rs := [6]) (by kernel_rfl) (by simp) ?_
          refine AllReadyH.cons (o := oI6_6) rfl (fun K hK => ?_) (AllReadyH.nil)
          dsimp only [oI6_6]
          simp only [Region.wanted, if_true]
          refine op_store_irow 24 (.tmp 3) (.tmp 21) rfl (g := G) (t := 24) (k := .u8) (xs := num q2) (ys := num q3) rfl rfl HI.out.rg (size_numN q3) (same_length _ _) ?_
          have HI := Lib.hid (HI.out.setG HG.out q3)
          refine hK.out _ _ ?_ (fun hHeld => ?_)
          · exact anyW _
          clear hK K
          try simp only [Act.put]
          refine wpAnyH_ready (rs := [7]) (by kernel_rfl) (by simp) ?_
          refine AllReadyH.cons (o := oI6_7) rfl (fun K hK => ?_) (AllReadyH.nil)
          dsimp only [oI6_7]
          simp only [Region.wanted, if_true]
          refine op_store_irow 24 (.tmp 4) (.tmp 24) rfl (g := G + 1) (t := 24) (k := .u8) (xs := num r2) (ys := num r3) rfl rfl HI.out.rr (size_numN r3) (same_length _ _) ?_
          have HI := Lib.hid (HI.out.setR HG.out r3)
          refine hK.out _ _ ?_ (fun hHeld => ?_)
          · exact anyW _
          clear hK K
          try simp only [Act.put]
          refine wpAnyH_done (by kernel_rfl) ?_ _
          exact HQ.out _ _ _ _ _ _ _ HI.out
        · as_aux_lemma =>
          dsimp only [oI6_4]
          simp only [Region.wanted, if_true]
          refine wp_load_mid 24 (.tmp 1) rfl w.heap.size 0 rfl ((num d).map (Value.int .u8)) _ HI.out.rd.range Tryd.underlying24 rfl (by rw [List.length_map]; exact size_numN d) ?_
          refine hK.out _ _ ?_ (fun hHeld => ?_)
          · exact anyW _
          clear hK K
          try simp only [Act.put, List.setIfInBounds_toArray, List.set_cons_zero, List.set_cons_succ]
          refine wpAnyH_ready (rs := [2]) (by kernel_rfl) (by simp) ?_
          refine AllReadyH.cons (o := oI6_2) rfl (fun K hK => ?_) (AllReadyH.nil)
          dsimp only [oI6_2]
          go_simp
          refine (HA3.out _).mono ?_
          rintro e w4 ⟨rfl, hb4⟩
          have HI := Lib.hid (HI.out.below hb4)
          clear hb4
          go_simp
          refine hK.out _ _ ?_ (fun hHeld => ?_)
          · exact anyW _
          clear hK K
          try simp only [Act.put, List.setIfInBounds_toArray, List.set_cons_zero, List.set_cons_succ]
          refine wpAnyH_ready (rs := [5]) (by kernel_rfl) (by simp) ?_
          refine AllReadyH.cons (o := oI6_5) rfl (fun K hK => ?_) (AllReadyH.nil)
          dsimp only [oI6_5]
          go_simp
          refine (HA4.out _).mono ?_
          rintro e w4 ⟨rfl, hb4⟩
          have HI := Lib.hid (HI.out.below hb4)
          clear hb4
          go_simp
          refine hK.out _ _ ?_ (fun hHeld => ?_)
          · exact anyW _
          clear hK K
          try simp only [Act.put, List.setIfInBounds_toArray, List.set_cons_zero, List.set_cons_succ]
          refine wpAnyH_ready (rs := [6]) (by kernel_rfl) (by simp) ?_
          refine AllReadyH.cons (o := oI6_6) rfl (fun K hK => ?_) (AllReadyH.nil)
          dsimp only [oI6_6]
          simp only [Region.wanted, if_true]
          refine op_store_irow 24 (.tmp 3) (.tmp 21) rfl (g := G) (t := 24) (k := .u8) (xs := num q2) (ys := num q3) rfl rfl HI.out.rg (size_numN q3) (same_length _ _) ?_
          have HI := Lib.hid (HI.out.setG HG.out q3)
          refine hK.out _ _ ?_ (fun hHeld => ?_)
          · exact anyW _
          clear hK K
          try simp only [Act.put]
          refine wpAnyH_ready (rs := [7]) (by kernel_rfl) (by simp) ?_
          refine AllReadyH.cons (o := oI6_7) rfl (fun K hK => ?_) (AllReadyH.nil)
          dsimp only [oI6_7]
          simp only [Region.wanted, if_true]
          refine op_store_irow 24 (.tmp 4) (.tmp 24) rfl (g := G + 1) (t := 24) (k := .u8) (xs := num r2) (ys := num r3) rfl rfl HI.out.rr (size_numN r3) (same_length _ _) ?_
          have HI := Lib.hid (HI.out.setR HG.out r3)
          refine hK.out _ _ ?_ (fun hHeld => ?_)
          · exact anyW _
          clear hK K
          try simp only [Act.put]
          refine wpAnyH_done (by kernel_rfl) ?_ _
          exact HQ.out _ _ _ _ _ _ _ HI.out
      · as_aux_lemma =>
        dsimp only [oI6_4]
        simp only [Region.wanted, if_true]
        refine wp_load_mid 24 (.tmp 1) rfl w.heap.size 0 rfl ((num d).map (Value.int .u8)) _ HI.out.rd.range Tryd.underlying24 rfl (by rw [List.length_map]; exact size_numN d) ?_
        refine hK.out _ _ ?_ (fun hHeld => ?_)
        · exact anyW _
        clear hK K
        try simp only [Act.put, List.setIfInBounds_toArray, List.set_cons_zero, List.set_cons_succ]
        refine wpAnyH_ready (rs := [2, 3]) (by kernel_rfl) (by simp) ?_
        refine AllReadyH.cons (o := oI6_2) rfl (fun K hK => ?_) (AllReadyH.cons (o := oI6_3) rfl (fun K hK => ?_) (AllReadyH.nil))
        · as_aux_lemma =>
          dsimp only [oI6_2]
          go_simp
          refine (HA3.out _).mono ?_
          rintro e w4 ⟨rfl, hb4⟩
          have HI := Lib.hid (HI.out.below hb4)
          clear hb4
          go_simp
          refine hK.out _ _ ?_ (fun hHeld => ?_)
          · exact anyW _
          clear hK K
          try simp only [Act.put, List.setIfInBounds_toArray, List.set_cons_zero, List.set_cons_succ]
          refine wpAnyH_ready (rs := [3]) (by kernel_rfl) (by simp) ?_
          refine AllReadyH.cons (o := oI6_3) rfl (fun K hK => ?_) (AllReadyH.nil)
          dsimp only [oI6_3]
          simp only [Region.wanted, if_true]
          refine wp_load_mid 24 (.tmp 4) rfl (G + 1) 0 rfl ((num r2).map (Value.int .u8)) _ HI.out.rr.range Tryd.underlying24 rfl (by rw [List.length_map]; exact size_numN r2) ?_
          refine hK.out _ _ ?_ (fun hHeld => ?_)
          · exact anyW _
          clear hK K
          try simp only [Act.put, List.setIfInBounds_toArray, List.set_cons_zero, List.set_cons_succ]
          refine wpAnyH_ready (rs := [5]) (by kernel_rfl) (by simp) ?_
          refine AllReadyH.cons (o := oI6_5) rfl (fun K hK => ?_) (AllReadyH.nil)
          dsimp only [oI6_5]
          go_simp
          refine (HA4.out _).mono ?_
          rintro e w4 ⟨rfl, hb4⟩
          have HI := Lib.hid (HI.out.below hb4)
          clear hb4
          go_simp
          refine hK.out _ _ ?_ (fun hHeld => ?_)
          · exact anyW _
          clear hK K
          try simp only [Act.put, List.setIfInBounds_toArray, List.set_cons_zero, List.set_cons_succ]
          refine wpAnyH_ready (rs := [6]) (by kernel_rfl) (by simp) ?_
          refine AllReadyH.cons (o := oI6_6) rfl (fun K hK => ?_) (AllReadyH.nil)
          dsimp only [oI6_6]
          simp only [Region.wanted, if_true]
          refine op_store_irow 24 (.tmp 3) (.tmp 21) rfl (g := G) (t := 24) (k := .u8) (xs := num q2) (ys := num q3) rfl rfl HI.out.rg (size_numN q3) (same_length _ _) ?_
          have HI := Lib.hid (HI.out.setG HG.out q3)
          refine hK.out _ _ ?_ (fun hHeld => ?_)
          · exact anyW _
          clear hK K
          try simp only [Act.put]
          refine wpAnyH_ready (rs := [7]) (by kernel_rfl) (by simp) ?_
          refine AllReadyH.cons (o := oI6_7) rfl (fun K hK => ?_) (AllReadyH.nil)
          dsimp only [oI6_7]
          simp only [Region.wanted, if_true]
          refine op_store_irow 24 (.tmp 4) (.tmp 24) rfl (g := G + 1) (t := 24) (k := .u8) (xs := num r2) (ys := num r3) rfl rfl HI.out.rr (size_numN r3) (same_length _ _) ?_
          have HI := Lib.hid (HI.out.setR HG.out r3)
          refine hK.out _ _ ?_ (fun hHeld => ?_)
          · exact anyW _
          clear hK K
          try simp only [Act.put]
          refine wpAnyH_done (by kernel_rfl) ?_ _
          exact HQ.out _ _ _ _ _ _ _ HI.out
        · as_aux_lemma =>
          dsimp only [oI6_3]
          simp only [Region.wanted, if_true]
          refine wp_load_mid 24 (.tmp 4) rfl (G + 1) 0 rfl ((num r2).map (Value.int .u8)) _ HI.out.rr.range Tryd.underlying24 rfl (by rw [List.length_map]; exact size_numN r2) ?_
          refine hK.out _ _ ?_ (fun hHeld => ?_)
          · exact anyW _
          clear hK K
          try simp only [Act.put, List.setIfInBounds_toArray, List.set_cons_zero, List.set_cons_succ]
          refine wpAnyH_ready (rs := [2]) (by kernel_rfl) (by simp) ?_
          refine AllReadyH.cons (o := oI6_2) rfl (fun K hK => ?_) (AllReadyH.nil)
          dsimp only [oI6_2]
          go_simp
          refine (HA3.out _).mono ?_
          rintro e w4 ⟨rfl, hb4⟩
          have HI := Lib.hid (HI.out.below hb4)
          clear hb4
          go_simp
          refine hK.out _ _ ?_ (fun hHeld => ?_)
          · exact anyW _
          clear hK K
          try simp only [Act.put, List.setIfInBounds_toArray, List.set_cons_zero, List.set_cons_succ]
          refine wpAnyH_ready (rs := [5]) (by kernel_rfl) (by simp) ?_
          refine AllReadyH.cons (o := oI6_5) rfl (fun K hK => ?_) (AllReadyH.nil)
          dsimp only [oI6_5]
          go_simp
          refine (HA4.out _).mono ?_
          rintro e w4 ⟨rfl, hb4⟩
          have HI := Lib.hid (HI.out.below hb4)
          clear hb4
          go_simp
          refine hK.out _ _ ?_ (fun hHeld => ?_)
          · exact anyW _
          clear hK K
          try simp only [Act.put, List.setIfInBounds_toArray, List.set_cons_zero, List.set_cons_succ]
          refine wpAnyH_ready (rs := [6]) (by kernel_rfl) (by simp) ?_
          refine AllReadyH.cons (o := oI6_6) rfl (fun K hK => ?_) (AllReadyH.nil)
          dsimp only [oI6_6]
          simp only [Region.wanted, if_true]
          refine op_store_irow 24 (.tmp 3) (.tmp 21) rfl (g := G) (t := 24) (k := .u8) (xs := num q2) (ys := num q3) rfl rfl HI.out.rg (size_numN q3) (same_length _ _) ?_
          have HI := Lib.hid (HI.out.setG HG.out q3)
          refine hK.out _ _ ?_ (fun hHeld => ?_)
          · exact anyW _
          clear hK K
          try simp only [Act.put]
          refine wpAnyH_ready (rs := [7]) (by kernel_rfl) (by simp) ?_
          refine AllReadyH.cons (o := oI6_7) rfl (fun K hK => ?_) (AllReadyH.nil)
          dsimp only [oI6_7]
          simp only [Region.wanted, if_true]
          refine op_store_irow 24 (.tmp 4) (.tmp 24) rfl (g := G + 1) (t := 24) (k := .u8) (xs := num r2) (ys := num r3) rfl rfl HI.out.rr (size_numN r3) (same_length _ _) ?_
          have HI := Lib.hid (HI.out.setR HG.out r3)
          refine hK.out _ _ ?_ (fun hHeld => ?_)
          · exact anyW _
          clear hK K
          try simp only [Act.put]
          refine wpAnyH_done (by kernel_rfl) ?_ _
          exact HQ.out _ _ _ _ _ _ _ HI.out
    · as_aux_lemma =>
      dsimp only [oI6_3]
      simp only [Region.wanted, if_true]
      refine wp_load_mid 24 (.tmp 4) rfl (G + 1) 0 rfl ((num r2).map (Value.int .u8)) _ HI.out.rr.range Tryd.underlying24 rfl (by rw [List.length_map]; exact size_numN r2) ?_
      refine hK.out _ _ ?_ (fun hHeld => ?_)
      · exact anyW _
      clear hK K
      try simp only [Act.put, List.setIfInBounds_toArray, List.set_cons_zero, List.set_cons_succ]
      refine wpAnyH_ready (rs := [0, 4]) (by kernel_rfl) (by simp) ?_
      refine AllReadyH.cons (o := oI6_0) rfl (fun K hK => ?_) (AllReadyH.cons (o := oI6_4) rfl (fun K hK => ?_) (AllReadyH.nil))
      · as_aux_lemma =>
        dsimp only [oI6_0]
        simp only [Region.wanted, if_true]
        refine wp_load_mid 24 (.tmp 3) rfl G 0 rfl ((num q2).map (Value.int .u8)) _ HI.out.rg.range Tryd.underlying24 rfl (by rw [List.length_map]; exact size_numN q2) ?_
        refine hK.out _ _ ?_ (fun hHeld => ?_)
        · exact anyW _
        clear hK K
        try simp only [Act.put, List.setIfInBounds_toArray, List.set_cons_zero, List.set_cons_succ]
        refine wpAnyH_ready (rs := [2, 4]) (by kernel_rfl) (by simp) ?_
        refine AllReadyH.cons (o := oI6_2) rfl (fun K hK => ?_) (AllReadyH.cons (o := oI6_4) rfl (fun K hK => ?_) (AllReadyH.nil))
        · as_aux_lemma =>
          dsimp only [oI6_2]
          go_simp
          refine (HA3.out _).mono ?_
          rintro e w4 ⟨rfl, hb4⟩
          have HI := Lib.hid (HI.out.below hb4)
          clear hb4
          go_simp
          refine hK.out _ _ ?_ (fun hHeld => ?_)
          · exact anyW _
          clear hK K
          try simp only [Act.put, List.setIfInBounds_toArray, List.set_cons_zero, List.set_cons_succ]
          refine wpAnyH_ready (rs := [4]) (by kernel_rfl) (by simp) ?_
          refine AllReadyH.cons (o := oI6_4) rfl (fun K hK => ?_) (AllReadyH.nil)
          dsimp only [oI6_4]
          simp only [Region.wanted, if_true]
          refine wp_load_mid 24 (.tmp 1) rfl w.heap.size 0 rfl ((num d).map (Value.int .u8)) _ HI.out.rd.range Tryd.underlying24 rfl (by rw [List.length_map]; exact size_numN d) ?_
          refine hK.out _ _ ?_ (fun hHeld => ?_)
          · exact anyW _
          clear hK K
          try simp only [Act.put, List.setIfInBounds_toArray, List.set_cons_zero, List.set_cons_succ]
          refine wpAnyH_ready (rs := [5]) (by kernel_rfl) (by simp) ?_
          refine AllReadyH.cons (o := oI6_5) rfl (fun K hK => ?_) (AllReadyH.nil)
          dsimp only [oI6_5]
          go_simp
          refine (HA4.out _).mono ?_
          rintro e w4 ⟨rfl, hb4⟩
          have HI := Lib.hid (HI.out.below hb4)
          clear hb4
          go_simp
          refine hK.out _ _ ?_ (fun hHeld => ?_)
          · exact anyW _
          clear hK K
          try simp only [Act.put, List.setIfInBounds_toArray, List.set_cons_zero, List.set_cons_succ]
          refine wpAnyH_ready (rs := [6]) (by kernel_rfl) (by simp) ?_
          refine AllReadyH.cons (o := oI6_6) rfl (fun K hK => ?_) (AllReadyH.nil)
          dsimp only [oI6_6]
          simp only [Region.wanted, if_true]
          refine op_store_irow 24 (.tmp 3) (.tmp 21) rfl (g := G) (t := 24) (k := .u8) (xs := num q2) (ys := num q3) rfl rfl HI.out.rg (size_numN q3) (same_length _ _) ?_
          have HI := Lib.hid (HI.out.setG HG.out q3)
          refine hK.out _ _ ?_ (fun hHeld => ?_)
          · exact anyW _
          clear hK K
          try simp only [Act.put]
          refine wpAnyH_ready (rs := [7]) (by kernel_rfl) (by simp) ?_
          refine AllReadyH.cons (o := oI6_7) rfl (fun K hK => ?_) (AllReadyH.nil)
          dsimp only [oI6_7]
          simp only [Region.wanted, if_true]
          refine op_store_irow 24 (.tmp 4) (.tmp 24) rfl (g := G + 1) (t := 24) (k := .u8) (xs := num r2) (ys := num r3) rfl rfl HI.out.rr (size_numN r3) (same_length _ _) ?_
          have HI := Lib.hid (HI.out.setR HG.out r3)
          refine hK.out _ _ ?_ (fun hHeld => ?_)
          · exact anyW _
          clear hK K
          try simp only [Act.put]
          refine wpAnyH_done (by kernel_rfl) ?_ _
          exact HQ.out _ _ _ _ _ _ _ HI.out
        · as_aux_lemma =>
          dsimp only [oI6_4]
          simp only [Region.wanted, if_true]
          refine wp_load_mid 24 (.tmp 1) rfl w.heap.size 0 rfl ((num d).map (Value.int .u8)) _ HI.out.rd.range Tryd.underlying24 rfl (by rw [List.length_map]; exact size_numN d) ?_
          refine hK.out _ _ ?_ (fun hHeld => ?_)
          · exact anyW _
          clear hK K
          try simp only [Act.put, List.setIfInBounds_toArray, List.set_cons_zero, List.set_cons_succ]
          refine wpAnyH_ready (rs := [2]) (by kernel_rfl) (by simp) ?_
          refine AllReadyH.cons (o := oI6_2) rfl (fun K hK => ?_) (AllReadyH.nil)
          dsimp only [oI6_2]
          go_simp
          refine (HA3.out _).mono ?_
          rintro e w4 ⟨rfl, hb4⟩
          have HI := Lib.hid (HI.out.below hb4)
          clear hb4
          go_simp
          refine hK.out _ _ ?_ (fun hHeld => ?_)
          · exact anyW _
          clear hK K
          try simp only [Act.put, List.setIfInBounds_toArray, List.set_cons_zero, List.set_cons_succ]
          refine wpAnyH_ready (rs := [5]) (by kernel_rfl) (by simp) ?_
          refine AllReadyH.cons (o := oI6_5) rfl (fun K hK => ?_) (AllReadyH.nil)
          dsimp only [oI6_5]
          go_simp
          refine (HA4.out _).mono ?_
          rintro e w4 ⟨rfl, hb4⟩
          have HI := Lib.hid (HI.out.below hb4)
          clear hb4
          go_simp
          refine hK.out _ _ ?_ (fun hHeld => ?_)
          · exact anyW _
          clear hK K
          try simp only [Act.put, List.setIfInBounds_toArray, List.set_cons_zero, List.set_cons_succ]
          refine wpAnyH_ready (rs := [6]) (by kernel_rfl) (by simp) ?_
          refine AllReadyH.cons (o := oI6_6) rfl (fun K hK => ?_) (AllReadyH.nil)
          dsimp only [oI6_6]
          simp only [Region.wanted, if_true]
          refine op_store_irow 24 (.tmp 3) (.tmp 21) rfl (g := G) (t := 24) (k := .u8) (xs := num q2) (ys := num q3) rfl rfl HI.out.rg (size_numN q3) (same_length _ _) ?_
          have HI := Lib.hid (HI.out.setG HG.out q3)
          refine hK.out _ _ ?_ (fun hHeld => ?_)
          · exact anyW _
          clear hK K
          try simp only [Act.put]
          refine wpAnyH_ready (rs := [7]) (by kernel_rfl) (by simp) ?_
          refine AllReadyH.cons (o := oI6_7) rfl (fun K hK => ?_) (AllReadyH.nil)
          dsimp only [oI6_7]
          simp only [Region.wanted, if_true]
          refine op_store_irow 24 (.tmp 4) (.tmp 24) rfl (g := G + 1) (t := 24) (k := .u8) (xs := num r2) (ys := num r3) rfl rfl HI.out.rr (size_numN r3) (same_length _ _) ?_
          have HI := Lib.hid (HI.out.setR HG.out r3)
          refine hK.out _ _ ?_ (fun hHeld => ?_)
          · exact anyW _
          clear hK K
          try simp only [Act.put]
          refine wpAnyH_done (by kernel_rfl) ?_ _
          exact HQ.out _ _ _ _ _ _ _ HI.out
      · as_aux_lemma =>
        dsimp only [oI6_4]
        simp only [Region.wanted, if_true]
        refine wp_load_mid 24 (.tmp 1) rfl w.heap.size 0 rfl ((num d).map (Value.int .u8)) _ HI.out.rd.range Tryd.underlying24 rfl (by rw [List.length_map]; exact size_numN d) ?_
        refine hK.out _ _ ?_ (fun hHeld => ?_)
        · exact anyW _
        clear hK K
        try simp only [Act.put, List.setIfInBounds_toArray, List.set_cons_zero, List.set_cons_succ]
        refine wpAnyH_ready (rs := [0]) (by kernel_rfl) (by simp) ?_
        refine AllReadyH.cons (o := oI6_0) rfl (fun K hK => ?_) (AllReadyH.nil)
        dsimp only [oI6_0]
        simp only [Region.wanted, if_true]
        refine wp_load_mid 24 (.tmp 3) rfl G 0 rfl ((num q2).map (Value.int .u8)) _ HI.out.rg.range Tryd.underlying24 rfl (by rw [List.length_map]; exact size_numN q2) ?_
        refine hK.out _ _ ?_ (fun hHeld => ?_)
        · exact anyW _
        clear hK K
        try simp only [Act.put, List.setIfInBounds_toArray, List.set_cons_zero, List.set_cons_succ]
        refine wpAnyH_ready (rs := [2]) (by kernel_rfl) (by simp) ?_
        refine AllReadyH.cons (o := oI6_2) rfl (fun K hK => ?_) (AllReadyH.nil)
        dsimp only [oI6_2]
        go_simp
        refine (HA3.out _).mono ?_
        rintro e w4 ⟨rfl, hb4⟩
        have HI := Lib.hid (HI.out.below hb4)
        clear hb4
        go_simp
        refine hK.out _ _ ?_ (fun hHeld => ?_)
        · exact anyW _
        clear hK K
        try simp only [Act.put, List.setIfInBounds_toArray, List.set_cons_zero, List.set_cons_succ]
        refine wpAnyH_ready (rs := [5]) (by kernel_rfl) (by simp) ?_
        refine AllReadyH.cons (o := oI6_5) rfl (fun K hK => ?_) (AllReadyH.nil)
        dsimp only [oI6_5]
        go_simp
        refine (HA4.out _).mono ?_
        rintro e w4 ⟨rfl, hb4⟩
        have HI := Lib.hid (HI.out.below hb4)
        clear hb4
        go_simp
        refine hK.out _ _ ?_ (fun hHeld => ?_)
        · exact anyW _
        clear hK K
        try simp only [Act.put, List.setIfInBounds_toArray, List.set_cons_zero, List.set_cons_succ]
        refine wpAnyH_ready (rs := [6]) (by kernel_rfl) (by simp) ?_
        refine AllReadyH.cons (o := oI6_6) rfl (fun K hK => ?_) (AllReadyH.nil)
        dsimp only [oI6_6]
        simp only [Region.wanted, if_true]
        refine op_store_irow 24 (.tmp 3) (.tmp 21) rfl (g := G) (t := 24) (k := .u8) (xs := num q2) (ys := num q3) rfl rfl HI.out.rg (size_numN q3) (same_length _ _) ?_
        have HI := Lib.hid (HI.out.setG HG.out q3)
        refine hK.out _ _ ?_ (fun hHeld => ?_)
        · exact anyW _
        clear hK K
        try simp only [Act.put]
        refine wpAnyH_ready (rs := [7]) (by kernel_rfl) (by simp) ?_
        refine AllReadyH.cons (o := oI6_7) rfl (fun K hK => ?_) (AllReadyH.nil)
        dsimp only [oI6_7]
        simp only [Region.wanted, if_true]
        refine op_store_irow 24 (.tmp 4) (.tmp 24) rfl (g := G + 1) (t := 24) (k := .u8) (xs := num r2) (ys := num r3) rfl rfl HI.out.rr (size_numN r3) (same_length _ _) ?_
        have HI := Lib.hid (HI.out.setR HG.out r3)
        refine hK.out _ _ ?_ (fun hHeld => ?_)
        · exact anyW _
        clear hK K
        try simp only [Act.put]
        refine wpAnyH_done (by kernel_rfl) ?_ _
        exact HQ.out _ _ _ _ _ _ _ HI.out
    · as_aux_lemma =>
      dsimp only [oI6_4]
      simp only [Region.wanted, if_true]
      refine wp_load_mid 24 (.tmp 1) rfl w.heap.size 0 rfl ((num d).map (Value.int .u8)) _ HI.out.rd.range Tryd.underlying24 rfl (by rw [List.length_map]; exact size_numN d) ?_
      refine hK.out _ _ ?_ (fun hHeld => ?_)
      · exact anyW _
      clear hK K
      try simp only [Act.put, List.setIfInBounds_toArray, List.set_cons_zero, List.set_cons_succ]
      refine wpAnyH_ready (rs := [0, 3]) (by kernel_rfl) (by simp) ?_
      refine AllReadyH.cons (o := oI6_0) rfl (fun K hK => ?_) (AllReadyH.cons (o := oI6_3) rfl (fun K hK => ?_) (AllReadyH.nil))
      · as_aux_lemma =>
        dsimp only [oI6_0]
        simp only [Region.wanted, if_true]
        refine wp_load_mid 24 (.tmp 3) rfl G 0 rfl ((num q2).map (Value.int .u8)) _ HI.out.rg.range Tryd.underlying24 rfl (by rw [List.length_map]; exact size_numN q2) ?_
        refine hK.out _ _ ?_ (fun hHeld => ?_)
        · exact anyW _
        clear hK K
        try simp only [Act.put, List.setIfInBounds_toArray, List.set_cons_zero, List.set_cons_succ]
        refine wpAnyH_ready (rs := [2, 3]) (by kernel_rfl) (by simp) ?_
        refine AllReadyH.cons (o := oI6_2) rfl (fun K hK => ?_) (AllReadyH.cons (o := oI6_3) rfl (fun K hK => ?_) (AllReadyH.nil))
        · as_aux_lemma =>
          dsimp only [oI6_2]
          go_simp
          refine (HA3.out _).mono ?_
          rintro e w4 ⟨rfl, hb4⟩
          have HI := Lib.hid (HI.out.below hb4)
          clear hb4
          go_simp
          refine hK.out _ _ ?_ (fun hHeld => ?_)
          · exact anyW _
          clear hK K
          try simp only [Act.put, List.setIfInBounds_toArray, List.set_cons_zero, List.set_cons_succ]
          refine wpAnyH_ready (rs := [3]) (by kernel_rfl) (by simp) ?_
          refine AllReadyH.cons (o := oI6_3) rfl (fun K hK => ?_) (AllReadyH.nil)
          dsimp only [oI6_3]
          simp only [Region.wanted, if_true]
          refine wp_load_mid 24 (.tmp 4) rfl (G + 1) 0 rfl ((num r2).map (Value.int .u8)) _ HI.out.rr.range Tryd.underlying24 rfl (by rw [List.length_map]; exact size_numN r2) ?_
          refine hK.out _ _ ?_ (fun hHeld => ?_)
          · exact anyW _
          clear hK K
          try simp only [Act.put, List.setIfInBounds_toArray, List.set_cons_zero, List.set_cons_succ]
          refine wpAnyH_ready (rs := [5]) (by kernel_rfl) (by simp) ?_
          refine AllReadyH.cons (o := oI6_5) rfl (fun K hK => ?_) (AllReadyH.nil)
          dsimp only [oI6_5]
          go_simp
          refine (HA4.out _).mono ?_
          rintro e w4 ⟨rfl, hb4⟩
          have HI := Lib.hid (HI.out.below hb4)
          clear hb4
          go_simp
          refine hK.out _ _ ?_ (fun hHeld => ?_)
          · exact anyW _
          clear hK K
          try simp only [Act.put, List.setIfInBounds_toArray, List.set_cons_zero, List.set_cons_succ]
          refine wpAnyH_ready (rs := [6]) (by kernel_rfl) (by simp) ?_
          refine AllReadyH.cons (o := oI6_6) rfl (fun K hK => ?_) (AllReadyH.nil)
          dsimp only [oI6_6]
          simp only [Region.wanted, if_true]
          refine op_store_irow 24 (.tmp 3) (.tmp 21) rfl (g := G) (t := 24) (k := .u8) (xs := num q2) (ys := num q3) rfl rfl HI.out.rg (size_numN q3) (same_length _ _) ?_
          have HI := Lib.hid (HI.out.setG HG.out q3)
          refine hK.out _ _ ?_ (fun hHeld => ?_)
          · exact anyW _
          clear hK K
          try simp only [Act.put]
          refine wpAnyH_ready (rs := [7]) (by kernel_rfl) (by simp) ?_
          refine AllReadyH.cons (o := oI6_7) rfl (fun K hK => ?_) (AllReadyH.nil)
          dsimp only [oI6_7]
          simp only [Region.wanted, if_true]
          refine op_store_irow 24 (.tmp 4) (.tmp 24) rfl (g := G + 1) (t := 24) (k := .u8) (xs := num r2) (ys := num r3) rfl rfl HI.out.rr (size_numN r3) (same_length _ _) ?_
          have HI := Lib.hid (HI.out.setR HG.out r3)
          refine hK.out _ _ ?_ (fun hHeld => ?_)
          · exact anyW _
          clear hK K
          try simp only [Act.put]
          refine wpAnyH_done (by kernel_rfl) ?_ _
          exact HQ.out _ _ _ _ _ _ _ HI.out
        · as_aux_lemma =>
          dsimp only [oI6_3]
          simp only [Region.wanted, if_true]
          refine wp_load_mid 24 (.tmp 4) rfl (G + 1) 0 rfl ((num r2).map (Value.int .u8)) _ HI.out.rr.range Tryd.underlying24 rfl (by rw [List.length_map]; exact size_numN r2) ?_
          refine hK.out _ _ ?_ (fun hHeld => ?_)
          · exact anyW _
          clear hK K
          try simp only [Act.put, List.setIfInBounds_toArray, List.set_cons_zero, List.set_cons_succ]
          refine wpAnyH_ready (rs := [2]) (by kernel_rfl) (by simp) ?_
          refine AllReadyH.cons (o := oI6_2) rfl (fun K hK => ?_) (AllReadyH.nil)
          dsimp only [oI6_2]
          go_simp
          refine (HA3.out _).mono ?_
          rintro e w4 ⟨rfl, hb4⟩
          have HI := Lib.hid (HI.out.below hb4)
          clear hb4
          go_simp
          refine hK.out _ _ ?_ (fun hHeld => ?_)
          · exact anyW _
          clear hK K
          try simp only [Act.put, List.setIfInBounds_toArray, List.set_cons_zero, List.set_cons_succ]
          refine wpAnyH_ready (rs := [5]) (by kernel_rfl) (by simp) ?_
          refine AllReadyH.cons (o := oI6_5) rfl (fun K hK => ?_) (AllReadyH.nil)
          dsimp only [oI6_5]
          go_simp
          refine (HA4.out _).mono ?_
          rintro e w4 ⟨rfl, hb4⟩
          have HI := Lib.hid (HI.out.below hb4)
          clear hb4
          go_simp
          refine hK.out _ _ ?_ (fun hHeld => ?_)
          · exact anyW _
          clear hK K
          try simp only [Act.put, List.setIfInBounds_toArray, List.set_cons_zero, List.set_cons_succ]
          refine wpAnyH_ready (rs := [6]) (by kernel_rfl) (by simp) ?_
          refine AllReadyH.cons (o := oI6_6) rfl (fun K hK => ?_) (AllReadyH.nil)
          dsimp only [oI6_6]
          simp only [Region.wanted, if_true]
          refine op_store_irow 24 (.tmp 3) (.tmp 21) rfl (g := G) (t := 24) (k := .u8) (xs := num q2) (ys := num q3) rfl rfl HI.out.rg (size_numN q3) (same_length _ _) ?_
          have HI := Lib.hid (HI.out.setG HG.out q3)
          refine hK.out _ _ ?_ (fun hHeld => ?_)
          · exact anyW _
          clear hK K
          try simp only [Act.put]
          refine wpAnyH_ready (rs := [7]) (by kernel_rfl) (by simp) ?_
          refine AllReadyH.cons (o := oI6_7) rfl (fun K hK => ?_) (AllReadyH.nil)
          dsimp only [oI6_7]
          simp only [Region.wanted, if_true]
          refine op_store_irow 24 (.tmp 4) (.tmp 24) rfl (g := G + 1) (t := 24) (k := .u8) (xs := num r2) (ys := num r3) rfl rfl HI.out.rr (size_numN r3) (same_length _ _) ?_
          have HI := Lib.hid (HI.out.setR HG.out r3)
          refine hK.out _ _ ?_ (fun hHeld => ?_)
          · exact anyW _
          clear hK K
          try simp only [Act.put]
          refine wpAnyH_done (by kernel_rfl) ?_ _
          exact HQ.out _ _ _ _ _ _ _ HI.out
      · as_aux_lemma =>
        dsimp only [oI6_3]
        simp only [Region.wanted, if_true]
        refine wp_load_mid 24 (.tmp 4) rfl (G + 1) 0 rfl ((num r2).map (Value.int .u8)) _ HI.out.rr.range Tryd.underlying24 rfl (by rw [List.length_map]; exact size_numN r2) ?_
        refine hK.out _ _ ?_ (fun hHeld => ?_)
        · exact anyW _
        clear hK K
        try simp only [Act.put, List.setIfInBounds_toArray, List.set_cons_zero, List.set_cons_succ]
        refine wpAnyH_ready (rs := [0]) (by kernel_rfl) (by simp) ?_
        refine AllReadyH.cons (o := oI6_0) rfl (fun K hK => ?_) (AllReadyH.nil)
        dsimp only [oI6_0]
        simp only [Region.wanted, if_true]
        refine wp_load_mid 24 (.tmp 3) rfl G 0 rfl ((num q2).map (Value.int .u8)) _ HI.out.rg.range Tryd.underlying24 rfl (by rw [List.length_map]; exact size_numN q2) ?_
        refine hK.out _ _ ?_ (fun hHeld => ?_)
        · exact anyW _
        clear hK K
        try simp only [Act.put, List.setIfInBounds_toArray, List.set_cons_zero, List.set_cons_succ]
        refine wpAnyH_ready (rs := [2]) (by kernel_rfl) (by simp) ?_
        refine AllReadyH.cons (o := oI6_2) rfl (fun K hK => ?_) (AllReadyH.nil)
        dsimp only [oI6_2]
        go_simp
        refine (HA3.out _).mono ?_
        rintro e w4 ⟨rfl, hb4⟩
        have HI := Lib.hid (HI.out.below hb4)
        clear hb4
        go_simp
        refine hK.out _ _ ?_ (fun hHeld => ?_)
        · exact anyW _
        clear hK K
        try simp only [Act.put, List.setIfInBounds_toArray, List.set_cons_zero, List.set_cons_succ]
        refine wpAnyH_ready (rs := [5]) (by kernel_rfl) (by simp) ?_
        refine AllReadyH.cons (o := oI6_5) rfl (fun K hK => ?_) (AllReadyH.nil)
        dsimp only [oI6_5]
        go_simp
        refine (HA4.out _).mono ?_
        rintro e w4 ⟨rfl, hb4⟩
        have HI := Lib.hid (HI.out.below hb4)
        clear hb4
        go_simp
        refine hK.out _ _ ?_ (fun hHeld => ?_)
        · exact anyW _
        clear hK K
        try simp only [Act.put, List.setIfInBounds_toArray, List.set_cons_zero, List.set_cons_succ]
        refine wpAnyH_ready (rs := [6]) (by kernel_rfl) (by simp) ?_
        refine AllReadyH.cons (o := oI6_6) rfl (fun K hK => ?_) (AllReadyH.nil)
        dsimp only [oI6_6]
        simp only [Region.wanted, if_true]
        refine op_store_irow 24 (.tmp 3) (.tmp 21) rfl (g := G) (t := 24) (k := .u8) (xs := num q2) (ys := num q3) rfl rfl HI.out.rg (size_numN q3) (same_length _ _) ?_
        have HI := Lib.hid (HI.out.setG HG.out q3)
        refine hK.out _ _ ?_ (fun hHeld => ?_)
        · exact anyW _
        clear hK K
        try simp only [Act.put]
        refine wpAnyH_ready (rs := [7]) (by kernel_rfl) (by simp) ?_
        refine AllReadyH.cons (o := oI6_7) rfl (fun K hK => ?_) (AllReadyH.nil)
        dsimp only [oI6_7]
        simp only [Region.wanted, if_true]
        refine op_store_irow 24 (.tmp 4) (.tmp 24) rfl (g := G + 1) (t := 24) (k := .u8) (xs := num r2) (ys := num r3) rfl rfl HI.out.rr (size_numN r3) (same_length _ _) ?_
        have HI := Lib.hid (HI.out.setR HG.out r3)
        refine hK.out _ _ ?_ (fun hHeld => ?_)
        · exact anyW _
        clear hK K
        try simp only [Act.put]
        refine wpAnyH_done (by kernel_rfl) ?_ _
        exact HQ.out _ _ _ _ _ _ _ HI.out
  · as_aux_lemma =>
    dsimp only [oI6_3]
    simp only [Region.wanted, if_true]
    refine wp_load_mid 24 (.tmp 4) rfl (G + 1) 0 rfl ((num r2).map (Value.int .u8)) _ HI.out.rr.range Tryd.underlying24 rfl (by rw [List.length_map]; exact size_numN r2) ?_
    refine hK.out _ _ ?_ (fun hHeld => ?_)
    · exact anyW _
    clear hK K
    try simp only [Act.put, List.setIfInBounds_toArray, List.set_cons_zero, List.set_cons_succ]
    refine wpAnyH_ready (rs := [0, 1, 4]) (by kernel_rfl) (by simp) ?_
    refine AllReadyH.cons (o := oI6_0) rfl (fun K hK => ?_) (AllReadyH.cons (o := oI6_1) rfl (fun K hK => ?_) (AllReadyH.cons (o := oI6_4) rfl (fun K hK => ?_) (AllReadyH.nil)))
    · as_aux_lemma =>
      dsimp only [oI6_0]
      simp only [Region.wanted, if_true]
      refine wp_load_mid 24 (.tmp 3) rfl G 0 rfl ((num q2).map (Value.int .u8)) _ HI.out.rg.range Tryd.underlying24 rfl (by rw [List.length_map]; exact size_numN q2) ?_
      refine hK.out _ _ ?_ (fun hHeld => ?_)
      · exact anyW _
      clear hK K
      try simp only [Act.put, List.setIfInBounds_toArray, List.set_cons_zero, List.set_cons_succ]
      refine wpAnyH_ready (rs := [1, 4]) (by kernel_rfl) (by simp) ?_
      refine AllReadyH.cons (o := oI6_1) rfl (fun K hK => ?_) (AllReadyH.cons (o := oI6_4) rfl (fun K hK => ?_) (AllReadyH.nil))
      · as_aux_lemma =>
        dsimp only [oI6_1]
        go_simp
        refine (one_any _).mono ?_
        rintro e w4 ⟨rfl, hb4⟩
        have HI := Lib.hid (HI.out.below hb4)
        clear hb4
        go_simp
        refine hK.out _ _ ?_ (fun hHeld => ?_)
        · exact anyW _
        clear hK K
        try simp only [Act.put, List.setIfInBounds_toArray, List.set_cons_zero, List.set_cons_succ]
        refine wpAnyH_ready (rs := [2, 4]) (by kernel_rfl) (by simp) ?_
        refine AllReadyH.cons (o := oI6_2) rfl (fun K hK => ?_) (AllReadyH.cons (o := oI6_4) rfl (fun K hK => ?_) (AllReadyH.nil))
        · as_aux_lemma =>
          dsimp only [oI6_2]
          go_simp
          refine (HA3.out _).mono ?_
          rintro e w4 ⟨rfl, hb4⟩
          have HI := Lib.hid (HI.out.below hb4)
          clear hb4
          go_simp
          refine hK.out _ _ ?_ (fun hHeld => ?_)
          · exact anyW _
          clear hK K
          try simp only [Act.put, List.setIfInBounds_toArray, List.set_cons_zero, List.set_cons_succ]
          refine wpAnyH_ready (rs := [4]) (by kernel_rfl) (by simp) ?_
          refine AllReadyH.cons (o := oI6_4) rfl (fun K hK => ?_) (AllReadyH.nil)
          dsimp only [oI6_4]
          simp only [Region.wanted, if_true]
          refine wp_load_mid 24 (.tmp 1) rfl w.heap.size 0 rfl ((num d).map (Value.int .u8)) _ HI.out.rd.range Tryd.underlying24 rfl (by rw [List.length_map]; exact size_numN d) ?_
          refine hK.out _ _ ?_ (fun hHeld => ?_)
          · exact anyW _
          clear hK K
          try simp only [Act.put, List.setIfInBounds_toArray, List.set_cons_zero, List.set_cons_succ]
          refine wpAnyH_ready (rs := [5]) (by kernel_rfl) (by simp) ?_
          refine AllReadyH.cons (o := oI6_5) rfl (fun K hK => ?_) (AllReadyH.nil)
          dsimp only [oI6_5]
          go_simp
          refine (HA4.out _).mono ?_
          rintro e w4 ⟨rfl, hb4⟩
          have HI := Lib.hid (HI.out.below hb4)
          clear hb4
          go_simp
          refine hK.out _ _ ?_ (fun hHeld => ?_)
          · exact anyW _
          clear hK K
          try simp only [Act.put, List.setIfInBounds_toArray, List.set_cons_zero, List.set_cons_succ]
          refine wpAnyH_ready (rs := [6]) (by kernel_rfl) (by simp) ?_
          refine AllReadyH.cons (o := oI6_6) rfl (fun K hK => ?_) (AllReadyH.nil)
          dsimp only [oI6_6]
          simp only [Region.wanted, if_true]
          refine op_store_irow 24 (.tmp 3) (.tmp 21) rfl (g := G) (t := 24) (k := .u8) (xs := num q2) (ys := num q3) rfl rfl HI.out.rg (size_numN q3) (same_length _ _) ?_
          have HI := Lib.hid (HI.out.setG HG.out q3)
          refine hK.out _ _ ?_ (fun hHeld => ?_)
          · exact anyW _
          clear hK K
          try simp only [Act.put]
          refine wpAnyH_ready (rs := [7]) (by kernel_rfl) (by simp) ?_
          refine AllReadyH.cons (o := oI6_7) rfl (fun K hK => ?_) (AllReadyH.nil)
          dsimp only [oI6_7]
          simp only [Region.wanted, if_true]
          refine op_store_irow 24 (.tmp 4) (.tmp 24) rfl (g := G + 1) (t := 24) (k := .u8) (xs := num r2) (ys := num r3) rfl rfl HI.out.rr (size_numN r3) (same_length _ _) ?_
          have HI := Lib.hid (HI.out.setR HG.out r3)
          refine hK.out _ _ ?_ (fun hHeld => ?_)
          · exact anyW _
          clear hK K
          try simp only [Act.put]
          refine wpAnyH_done (by kernel_rfl) ?_ _
          exact HQ.out _ _ _ _ _ _ _ HI.out
        · as_aux_lemma =>
          dsimp only [oI6_4]
          simp only [Region.wanted, if_true]
          refine wp_load_mid 24 (.tmp 1) rfl w.heap.size 0 rfl ((num d).map (Value.int .u8)) _ HI.out.rd.range Tryd.underlying24 rfl (by rw [List.length_map]; exact size_numN d) ?_
          refine hK.out _ _ ?_ (fun hHeld => ?_)
          · exact anyW _
          clear hK K
          try simp only [Act.put, List.setIfInBounds_toArray, List.set_cons_zero, List.set_cons_succ]
          refine wpAnyH_ready (rs := [2]) (by kernel_rfl) (by simp) ?_
          refine AllReadyH.cons (o := oI6_2) rfl (fun K hK => ?_) (AllReadyH.nil)
          dsimp only [oI6_2]
          go_simp
          refine (HA3.out _).mono ?_
          rintro e w4 ⟨rfl, hb4⟩
          have HI := Lib.hid (HI.out.below hb4)
          clear hb4
          go_simp
          refine hK.out _ _ ?_ (fun hHeld => ?_)
          · exact anyW _
          clear hK K
          try simp only [Act.put, List.setIfInBounds_toArray, List.set_cons_zero, List.set_cons_succ]
          refine wpAnyH_ready (rs := [5]) (by kernel_rfl) (by simp) ?_
          refine AllReadyH.cons (o := oI6_5) rfl (fun K hK => ?_) (AllReadyH.nil)
          dsimp only [oI6_5]
          go_simp
          refine (HA4.out _).mono ?_
          rintro e w4 ⟨rfl, hb4⟩
          have HI := Lib.hid (HI.out.below hb4)
          clear hb4
          go_simp
          refine hK.out _ _ ?_ (fun hHeld => ?_)
          · exact anyW _
          clear hK K
          try simp only [Act.put, List.setIfInBounds_toArray, List.set_cons_zero, List.set_cons_succ]
          refine wpAnyH_ready (rs := [6]) (by kernel_rfl) (by simp) ?_
          refine AllReadyH.cons (o := oI6_6) rfl (fun K hK => ?_) (AllReadyH.nil)
          dsimp only [oI6_6]
          simp only [Region.wanted, if_true]
          refine op_store_irow 24 (.tmp 3) (.tmp 21) rfl (g := G) (t := 24) (k := .u8) (xs := num q2) (ys := num q3) rfl rfl HI.out.rg (size_numN q3) (same_length _ _) ?_
          have HI := Lib.hid (HI.out.setG HG.out q3)
          refine hK.out _ _ ?_ (fun hHeld => ?_)
          · exact anyW _
          clear hK K
          try simp only [Act.put]
          refine wpAnyH_ready (rs := [7]) (by kernel_rfl) (by simp) ?_
          refine AllReadyH.cons (o := oI6_7) rfl (fun K hK => ?_) (AllReadyH.nil)
          dsimp only [oI6_7]
          simp only [Region.wanted, if_true]
          refine op_store_irow 24 (.tmp 4) (.tmp 24) rfl (g := G + 1) (t := 24) (k := .u8) (xs := num r2) (ys := num r3) rfl rfl HI.out.rr (size_numN r3) (same_length _ _) ?_
          have HI := Lib.hid (HI.out.setR HG.out r3)
          refine hK.out _ _ ?_ (fun hHeld => ?_)
          · exact anyW _
          clear hK K
          try simp only [Act.put]
          refine wpAnyH_done (by kernel_rfl) ?_ _
          exact HQ.out _ _ _ _ _ _ _ HI.out
      · as_aux_lemma =>
        dsimp only [oI6_4]
        simp only [Region.wanted, if_true]
        refine wp_load_mid 24 (.tmp 1) rfl w.heap.size 0 rfl ((num d).map (Value.int .u8)) _ HI.out.rd.range Tryd.underlying24 rfl (by rw [List.length_map]; exact size_numN d) ?_
        refine hK.out _ _ ?_ (fun hHeld => ?_)
        · exact anyW _
        clear hK K
        try simp only [Act.put, List.setIfInBounds_toArray, List.set_cons_zero, List.set_cons_succ]
        refine wpAnyH_ready (rs := [1]) (by kernel_rfl) (by simp) ?_
        refine AllReadyH.cons (o := oI6_1) rfl (fun K hK => ?_) (AllReadyH.nil)
        dsimp only [oI6_1]
        go_simp
        refine (one_any _).mono ?_
        rintro e w4 ⟨rfl, hb4⟩
        have HI := Lib.hid (HI.out.below hb4)
        clear hb4
        go_simp
        refine hK.out _ _ ?_ (fun hHeld => ?_)
        · exact anyW _
        clear hK K
        try simp only [Act.put, List.setIfInBounds_toArray, List.set_cons_zero, List.set_cons_succ]
        refine wpAnyH_ready (rs := [2]) (by kernel_rfl) (by simp) ?_
        refine AllReadyH.cons (o := oI6_2) rfl (fun K hK => ?_) (AllReadyH.nil)
        dsimp only [oI6_2]
        go_simp
        refine (HA3.out _).mono ?_
        rintro e w4 ⟨rfl, hb4⟩
        have HI := Lib.hid (HI.out.below hb4)
        clear hb4
        go_simp
        refine hK.out _ _ ?_ (fun hHeld => ?_)
        · exact anyW _
        clear hK K
        try simp only [Act.put, List.setIfInBounds_toArray, List.set_cons_zero, List.set_cons_succ]
        refine wpAnyH_ready (rs := [5]) (by kernel_rfl) (by simp) ?_
        refine AllReadyH.cons (o := oI6_5) rfl (fun K hK => ?_) (AllReadyH.nil)
        dsimp only [oI6_5]
        go_simp
        refine (HA4.out _).mono ?_
        rintro e w4 ⟨rfl, hb4⟩
        have HI := Lib.hid (HI.out.below hb4)
        clear hb4
        go_simp
        refine hK.out _ _ ?_ (fun hHeld => ?_)
        · exact anyW _
        clear hK K
        try simp only [Act.put, List.setIfInBounds_toArray, List.set_cons_zero, List.set_cons_succ]
        refine wpAnyH_ready (rs := [6]) (by kernel_rfl) (by simp) ?_
        refine AllReadyH.cons (o := oI6_6) rfl (fun K hK => ?_) (AllReadyH.nil)
        dsimp only [oI6_6]
        simp only [Region.wanted, if_true]
        refine op_store_irow 24 (.tmp 3) (.tmp 21) rfl (g := G) (t := 24) (k := .u8) (xs := num q2) (ys := num q3) rfl rfl HI.out.rg (size_numN q3) (same_length _ _) ?_
        have HI := Lib.hid (HI.out.setG HG.out q3)
        refine hK.out _ _ ?_ (fun hHeld => ?_)
        · exact anyW _
        clear hK K
        try simp only [Act.put]
        refine wpAnyH_ready (rs := [7]) (by kernel_rfl) (by simp) ?_
        refine AllReadyH.cons (o := oI6_7) rfl (fun K hK => ?_) (AllReadyH.nil)
        dsimp only [oI6_7]
        simp only [Region.wanted, if_true]
        refine op_store_irow 24 (.tmp 4) (.tmp 24) rfl (g := G + 1) (t := 24) (k := .u8) (xs := num r2) (ys := num r3) rfl rfl HI.out.rr (size_numN r3) (same_length _ _) ?_
        have HI := Lib.hid (HI.out.setR HG.out r3)
        refine hK.out _ _ ?_ (fun hHeld => ?_)
        · exact anyW _
        clear hK K
        try simp only [Act.put]
        refine wpAnyH_done (by kernel_rfl) ?_ _
        exact HQ.out _ _ _ _ _ _ _ HI.out
    · as_aux_lemma =>
      dsimp only [oI6_1]
      go_simp
      refine (one_any _).mono ?_
      rintro e w4 ⟨rfl, hb4⟩
      have HI := Lib.hid (HI.out.below hb4)
      clear hb4
      go_simp
      refine hK.out _ _ ?_ (fun hHeld => ?_)
      · exact anyW _
      clear hK K
      try simp only [Act.put, List.setIfInBounds_toArray, List.set_cons_zero, List.set_cons_succ]
      refine wpAnyH_ready (rs := [0, 4]) (by kernel_rfl) (by simp) ?_
      refine AllReadyH.cons (o := oI6_0) rfl (fun K hK => ?_) (AllReadyH.cons (o := oI6_4) rfl (fun K hK => ?_) (AllReadyH.nil))
      · as_aux_lemma =>
        dsimp only [oI6_0]
        simp only [Region.wanted, if_true]
        refine wp_load_mid 24 (.tmp 3) rfl G 0 rfl ((num q2).map (Value.int .u8)) _ HI.out.rg.range Tryd.underlying24 rfl (by rw [List.length_map]; exact size_numN q2) ?_
        refine hK.out _ _ ?_ (fun hHeld => ?_)
        · exact anyW _
        clear hK K
        try simp only [Act.put, List.setIfInBounds_toArray, List.set_cons_zero, List.set_cons_succ]
        refine wpAnyH_ready (rs := [2, 4]) (by kernel_rfl) (by simp) ?_
        refine AllReadyH.cons (o := oI6_2) rfl (fun K hK => ?_) (AllReadyH.cons (o := oI6_4) rfl (fun K hK => ?_) (AllReadyH.nil))
        · as_aux_lemma =>
          dsimp only [oI6_2]
          go_simp
          refine (HA3.out _).mono ?_
          rintro e w4 ⟨rfl, hb4⟩
          have HI := Lib.hid (HI.out.below hb4)
          clear hb4
          go_simp
          refine hK.out _ _ ?_ (fun hHeld => ?_)
          · exact anyW _
          clear hK K
          try simp only [Act.put, List.setIfInBounds_toArray, List.set_cons_zero, List.set_cons_succ]
          refine wpAnyH_ready (rs := [4]) (by kernel_rfl) (by simp) ?_
          refine AllReadyH.cons (o := oI6_4) rfl (fun K hK => ?_) (AllReadyH.nil)
          dsimp only [oI6_4]
          simp only [Region.wanted, if_true]
          refine wp_load_mid 24 (.tmp 1) rfl w.heap.size 0 rfl ((num d).map (Value.int .u8)) _ HI.out.rd.range Tryd.underlying24 rfl (by rw [List.length_map]; exact size_numN d) ?_
          refine hK.out _ _ ?_ (fun hHeld => ?_)
          · exact anyW _
          clear hK K
          try simp only [Act.put, List.setIfInBounds_toArray, List.set_cons_zero, List.set_cons_succ]
          refine wpAnyH_ready (rs := [5]) (by kernel_rfl) (by simp) ?_
          refine AllReadyH.cons (o := oI6_5) rfl (fun K hK => ?_) (AllReadyH.nil)
          dsimp only [oI6_5]
          go_simp
          refine (HA4.out _).mono ?_
          rintro e w4 ⟨rfl, hb4⟩
          have HI := Lib.hid (HI.out.below hb4)
          clear hb4
          go_simp
          refine hK.out _ _ ?_ (fun hHeld => ?_)
          · exact anyW _
          clear hK K
          try simp only [Act.put, List.setIfInBounds_toArray, List.set_cons_zero, List.set_cons_succ]
          refine wpAnyH_ready (rs := [6]) (by kernel_rfl) (by simp) ?_
          refine AllReadyH.cons (o := oI6_6) rfl (fun K hK => ?_) (AllReadyH.nil)
          dsimp only [oI6_6]
          simp only [Region.wanted, if_true]
          refine op_store_irow 24 (.tmp 3) (.tmp 21) rfl (g := G) (t := 24) (k := .u8) (xs := num q2) (ys := num q3) rfl rfl HI.out.rg (size_numN q3) (same_length _ _) ?_
          have HI := Lib.hid (HI.out.setG HG.out q3)
          refine hK.out _ _ ?_ (fun hHeld => ?_)
          · exact anyW _
          clear hK K
          try simp only [Act.put]
          refine wpAnyH_ready (rs := [7]) (by kernel_rfl) (by simp) ?_
          refine AllReadyH.cons (o := oI6_7) rfl (fun K hK => ?_) (AllReadyH.nil)
          dsimp only [oI6_7]
          simp only [Region.wanted, if_true]
          refine op_store_irow 24 (.tmp 4) (.tmp 24) rfl (g := G + 1) (t := 24) (k := .u8) (xs := num r2) (ys := num r3) rfl rfl HI.out.rr (size_numN r3) (same_length _ _) ?_
          have HI := Lib.hid (HI.out.setR HG.out r3)
          refine hK.out _ _ ?_ (fun hHeld => ?_)
          · exact anyW _
          clear hK K
          try simp only [Act.put]
          refine wpAnyH_done (by kernel_rfl) ?_ _
          exact HQ.out _ _ _ _ _ _ _ HI.out
        · as_aux_lemma =>
          dsimp only [oI6_4]
          simp only [Region.wanted, if_true]
          refine wp_load_mid 24 (.tmp 1) rfl w.heap.size 0 rfl ((num d).map (Value.int .u8)) _ HI.out.rd.range Tryd.underlying24 rfl (by rw [List.length_map]; exact size_numN d) ?_
          refine hK.out _ _ ?_ (fun hHeld => ?_)
          · exact anyW _
          clear hK K
          try simp only [Act.put, List.setIfInBounds_toArray, List.set_cons_zero, List.set_cons_succ]
          refine wpAnyH_ready (rs := [2]) (by kernel_rfl) (by simp) ?_
          refine AllReadyH.cons (o := oI6_2) rfl (fun K hK => ?_) (AllReadyH.nil)
          dsimp only [oI6_2]
          go_simp
          refine (HA3.out _).mono ?_
          rintro e w4 ⟨rfl, hb4⟩
          have HI := Lib.hid (HI.out.below hb4)
          clear hb4
          go_simp
          refine hK.out _ _ ?_ (fun hHeld => ?_)
          · exact anyW _
          clear hK K
          try simp only [Act.put, List.setIfInBounds_toArray, List.set_cons_zero, List.set_cons_succ]
          refine wpAnyH_ready (rs := [5]) (by kernel_rfl) (by simp) ?_
          refine AllReadyH.cons (o := oI6_5) rfl (fun K hK => ?_) (AllReadyH.nil)
          dsimp only [oI6_5]
          go_simp
          refine (HA4.out _).mono ?_
          rintro e w4 ⟨rfl, hb4⟩
          have HI := Lib.hid (HI.out.below hb4)
          clear hb4
          go_simp
          refine hK.out _ _ ?_ (fun hHeld => ?_)
          · exact anyW _
          clear hK K
          try simp only [Act.put, List.setIfInBounds_toArray, List.set_cons_zero, List.set_cons_succ]
          refine wpAnyH_ready (rs := [6]) (by kernel_rfl) (by simp) ?_
          refine AllReadyH.cons (o := oI6_6) rfl (fun K hK => ?_) (AllReadyH.nil)
          dsimp only [oI6_6]
          simp only [Region.wanted, if_true]
          refine op_store_irow 24 (.tmp 3) (.tmp 21) rfl (g := G) (t := 24) (k := .u8) (xs := num q2) (ys := num q3) rfl rfl HI.out.rg (size_numN q3) (same_length _ _) ?_
          have HI := Lib.hid (HI.out.setG HG.out q3)
          refine hK.out _ _ ?_ (fun hHeld => ?_)
          · exact anyW _
          clear hK K
          try simp only [Act.put]
          refine wpAnyH_ready (rs := [7]) (by kernel_rfl) (by simp) ?_
          refine AllReadyH.cons (o := oI6_7) rfl (fun K hK => ?_) (AllReadyH.nil)
          dsimp only [oI6_7]
          simp only [Region.wanted, if_true]
          refine op_store_irow 24 (.tmp 4) (.tmp 24) rfl (g := G + 1) (t := 24) (k := .u8) (xs := num r2) (ys := num r3) rfl rfl HI.out.rr (size_numN r3) (same_length _ _) ?_
          have HI := Lib.hid (HI.out.setR HG.out r3)
          refine hK.out _ _ ?_ (fun hHeld => ?_)
          · exact anyW _
          clear hK K
          try simp only [Act.put]
          refine wpAnyH_done (by kernel_rfl) ?_ _
          exact HQ.out _ _ _ _ _ _ _ HI.out
      · as_aux_lemma =>
        dsimp only [oI6_4]
        simp only [Region.wanted, if_true]
        refine wp_load_mid 24 (.tmp 1) rfl w.heap.size 0 rfl ((num d).map (Value.int .u8)) _ HI.out.rd.range Tryd.underlying24 rfl (by rw [List.length_map]; exact size_numN d) ?_
        refine hK.out _ _ ?_ (fun hHeld => ?_)
        · exact anyW _
        clear hK K
        try simp only [Act.put, List.setIfInBounds_toArray, List.set_cons_zero, List.set_cons_succ]
        refine wpAnyH_ready (rs := [0]) (by kernel_rfl) (by simp) ?_
        refine AllReadyH.cons (o := oI6_0) rfl (fun K hK => ?_) (AllReadyH.nil)
        dsimp only [oI6_0]
        simp only [Region.wanted, if_true]
        refine wp_load_mid 24 (.tmp 3) rfl G 0 rfl ((num q2).map (Value.int .u8)) _ HI.out.rg.range Tryd.underlying24 rfl (by rw [List.length_map]; exact size_numN q2) ?_
        refine hK.out _ _ ?_ (fun hHeld => ?_)
        · exact anyW _
        clear hK K
        try simp only [Act.put, List.setIfInBounds_toArray, List.set_cons_zero, List.set_cons_succ]
        refine wpAnyH_ready (rs := [2]) (by kernel_rfl) (by simp) ?_
        refine AllReadyH.cons (o := oI6_2) rfl (fun K hK => ?_) (AllReadyH.nil)
        dsimp only [oI6_2]
        go_simp
        refine (HA3.out _).mono ?_
        rintro e w4 ⟨rfl, hb4⟩
        have HI := Lib.hid (HI.out.below hb4)
        clear hb4
        go_simp
        refine hK.out _ _ ?_ (fun hHeld => ?_)
        · exact anyW _
        clear hK K
        try simp only [Act.put, List.setIfInBounds_toArray, List.set_cons_zero, List.set_cons_succ]
        refine wpAnyH_ready (rs := [5]) (by kernel_rfl) (by simp) ?_
        refine AllReadyH.cons (o := oI6_5) rfl (fun K hK => ?_) (AllReadyH.nil)
        dsimp only [oI6_5]
        go_simp
        refine (HA4.out _).mono ?_
        rintro e w4 ⟨rfl, hb4⟩
        have HI := Lib.hid (HI.out.below hb4)
        clear hb4
        go_simp
        refine hK.out _ _ ?_ (fun hHeld => ?_)
        · exact anyW _
        clear hK K
        try simp only [Act.put, List.setIfInBounds_toArray, List.set_cons_zero, List.set_cons_succ]
        refine wpAnyH_ready (rs := [6]) (by kernel_rfl) (by simp) ?_
        refine AllReadyH.cons (o := oI6_6) rfl (fun K hK => ?_) (AllReadyH.nil)
        dsimp only [oI6_6]
        simp only [Region.wanted, if_true]
        refine op_store_irow 24 (.tmp 3) (.tmp 21) rfl (g := G) (t := 24) (k := .u8) (xs := num q2) (ys := num q3) rfl rfl HI.out.rg (size_numN q3) (same_length _ _) ?_
        have HI := Lib.hid (HI.out.setG HG.out q3)
        refine hK.out _ _ ?_ (fun hHeld => ?_)
        · exact anyW _
        clear hK K
        try simp only [Act.put]
        refine wpAnyH_ready (rs := [7]) (by kernel_rfl) (by simp) ?_
        refine AllReadyH.cons (o := oI6_7) rfl (fun K hK => ?_) (AllReadyH.nil)
        dsimp only [oI6_7]
        simp only [Region.wanted, if_true]
        refine op_store_irow 24 (.tmp 4) (.tmp 24) rfl (g := G + 1) (t := 24) (k := .u8) (xs := num r2) (ys := num r3) rfl rfl HI.out.rr (size_numN r3) (same_length _ _) ?_
        have HI := Lib.hid (HI.out.setR HG.out r3)
        refine hK.out _ _ ?_ (fun hHeld => ?_)
        · exact anyW _
        clear hK K
        try simp only [Act.put]
        refine wpAnyH_done (by kernel_rfl) ?_ _
        exact HQ.out _ _ _ _ _ _ _ HI.out
    · as_aux_lemma =>
      dsimp only [oI6_4]
      simp only [Region.wanted, if_true]
      refine wp_load_mid 24 (.tmp 1) rfl w.heap.size 0 rfl ((num d).map (Value.int .u8)) _ HI.out.rd.range Tryd.underlying24 rfl (by rw [List.length_map]; exact size_numN d) ?_
      refine hK.out _ _ ?_ (fun hHeld => ?_)
      · exact anyW _
      clear hK K
      try simp only [Act.put, List.setIfInBounds_toArray, List.set_cons_zero, List.set_cons_succ]
      refine wpAnyH_ready (rs := [0, 1]) (by kernel_rfl) (by simp) ?_
      refine AllReadyH.cons (o := oI6_0) rfl (fun K hK => ?_) (AllReadyH.cons (o := oI6_1) rfl (fun K hK => ?_) (AllReadyH.nil))
      · as_aux_lemma =>
        dsimp only [oI6_0]
        simp only [Region.wanted, if_true]
        refine wp_load_mid 24 (.tmp 3) rfl G 0 rfl ((num q2).map (Value.int .u8)) _ HI.out.rg.range Tryd.underlying24 rfl (by rw [List.length_map]; exact size_numN q2) ?_
        refine hK.out _ _ ?_ (fun hHeld => ?_)
        · exact anyW _
        clear hK K
        try simp only [Act.put, List.setIfInBounds_toArray, List.set_cons_zero, List.set_cons_succ]
        refine wpAnyH_ready (rs := [1]) (by kernel_rfl) (by simp) ?_
        refine AllReadyH.cons (o := oI6_1) rfl (fun K hK => ?_) (AllReadyH.nil)
        dsimp only [oI6_1]
        go_simp
        refine (one_any _).mono ?_
        rintro e w4 ⟨rfl, hb4⟩
        have HI := Lib.hid (HI.out.below hb4)
        clear hb4
        go_simp
        refine hK.out _ _ ?_ (fun hHeld => ?_)
        · exact anyW _
        clear hK K
        try simp only [Act.put, List.setIfInBounds_toArray, List.set_cons_zero, List.set_cons_succ]
        refine wpAnyH_ready (rs := [2]) (by kernel_rfl) (by simp) ?_
        refine AllReadyH.cons (o := oI6_2) rfl (fun K hK => ?_) (AllReadyH.nil)
        dsimp only [oI6_2]
        go_simp
        refine (HA3.out _).mono ?_
        rintro e w4 ⟨rfl, hb4⟩
        have HI := Lib.hid (HI.out.below hb4)
        clear hb4
        go_simp
        refine hK.out _ _ ?_ (fun hHeld => ?_)
        · exact anyW _
        clear hK K
        try simp only [Act.put, List.setIfInBounds_toArray, List.set_cons_zero, List.set_cons_succ]
        refine wpAnyH_ready (rs := [5]) (by kernel_rfl) (by simp) ?_
        refine AllReadyH.cons (o := oI6_5) rfl (fun K hK => ?_) (AllReadyH.nil)
        dsimp only [oI6_5]
        go_simp
        refine (HA4.out _).mono ?_
        rintro e w4 ⟨rfl, hb4⟩
        have HI := Lib.hid (HI.out.below hb4)
        clear hb4
        go_simp
        refine hK.out _ _ ?_ (fun hHeld => ?_)
        · exact anyW _
        clear hK K
        try simp only [Act.put, List.setIfInBounds_toArray, List.set_cons_zero, List.set_cons_succ]
        refine wpAnyH_ready (rs := [6]) (by kernel_rfl) (by simp) ?_
        refine AllReadyH.cons (o := oI6_6) rfl (fun K hK => ?_) (AllReadyH.nil)
        dsimp only [oI6_6]
        simp only [Region.wanted, if_true]
        refine op_store_irow 24 (.tmp 3) (.tmp 21) rfl (g := G) (t := 24) (k := .u8) (xs := num q2) (ys := num q3) rfl rfl HI.out.rg (size_numN q3) (same_length _ _) ?_
        have HI := Lib.hid (HI.out.setG HG.out q3)
        refine hK.out _ _ ?_ (fun hHeld => ?_)
        · exact anyW _
        clear hK K
        try simp only [Act.put]
        refine wpAnyH_ready (rs := [7]) (by kernel_rfl) (by simp) ?_
        refine AllReadyH.cons (o := oI6_7) rfl (fun K hK => ?_) (AllReadyH.nil)
        dsimp only [oI6_7]
        simp only [Region.wanted, if_true]
        refine op_store_irow 24 (.tmp 4) (.tmp 24) rfl (g := G + 1) (t := 24) (k := .u8) (xs := num r2) (ys := num r3) rfl rfl HI.out.rr (size_numN r3) (same_length _ _) ?_
        have HI := Lib.hid (HI.out.setR HG.out r3)
        refine hK.out _ _ ?_ (fun hHeld => ?_)
        · exact anyW _
        clear hK K
        try simp only [Act.put]
        refine wpAnyH_done (by kernel_rfl) ?_ _
        exact HQ.out _ _ _ _ _ _ _ HI.out
      · as_aux_lemma =>
        dsimp only [oI6_1]
        go_simp
        refine (one_any _).mono ?_
        rintro e w4 ⟨rfl, hb4⟩
        have HI := Lib.hid (HI.out.below hb4)
        clear hb4
        go_simp
        refine hK.out _ _ ?_ (fun hHeld => ?_)
        · exact anyW _
        clear hK K
        try simp only [Act.put, List.setIfInBounds_toArray, List.set_cons_zero, List.set_cons_succ]
        refine wpAnyH_ready (rs := [0]) (by kernel_rfl) (by simp) ?_
        refine AllReadyH.cons (o := oI6_0) rfl (fun K hK => ?_) (AllReadyH.nil)
        dsimp only [oI6_0]
        simp only [Region.wanted, if_true]
        refine wp_load_mid 24 (.tmp 3) rfl G 0 rfl ((num q2).map (Value.int .u8)) _ HI.out.rg.range Tryd.underlying24 rfl (by rw [List.length_map]; exact size_numN q2) ?_
        refine hK.out _ _ ?_ (fun hHeld => ?_)
        · exact anyW _
        clear hK K
        try simp only [Act.put, List.setIfInBounds_toArray, List.set_cons_zero, List.set_cons_succ]
        refine wpAnyH_ready (rs := [2]) (by kernel_rfl) (by simp) ?_
        refine AllReadyH.cons (o := oI6_2) rfl (fun K hK => ?_) (AllReadyH.nil)
        dsimp only [oI6_2]
        go_simp
        refine (HA3.out _).mono ?_
        rintro e w4 ⟨rfl, hb4⟩
        have HI := Lib.hid (HI.out.below hb4)
        clear hb4
        go_simp
        refine hK.out _ _ ?_ (fun hHeld => ?_)
        · exact anyW _
        clear hK K
        try simp only [Act.put, List.setIfInBounds_toArray, List.set_cons_zero, List.set_cons_succ]
        refine wpAnyH_ready (rs := [5]) (by kernel_rfl) (by simp) ?_
        refine AllReadyH.cons (o := oI6_5) rfl (fun K hK => ?_) (AllReadyH.nil)
        dsimp only [oI6_5]
        go_simp
        refine (HA4.out _).mono ?_
        rintro e w4 ⟨rfl, hb4⟩
        have HI := Lib.hid (HI.out.below hb4)
        clear hb4
        go_simp
        refine hK.out _ _ ?_ (fun hHeld => ?_)
        · exact anyW _
        clear hK K
        try simp only [Act.put, List.setIfInBounds_toArray, List.set_cons_zero, List.set_cons_succ]
        refine wpAnyH_ready (rs := [6]) (by kernel_rfl) (by simp) ?_
        refine AllReadyH.cons (o := oI6_6) rfl (fun K hK => ?_) (AllReadyH.nil)
        dsimp only [oI6_6]
        simp only [Region.wanted, if_true]
        refine op_store_irow 24 (.tmp 3) (.tmp 21) rfl (g := G) (t := 24) (k := .u8) (xs := num q2) (ys := num q3) rfl rfl HI.out.rg (size_numN q3) (same_length _ _) ?_
        have HI := Lib.hid (HI.out.setG HG.out q3)
        refine hK.out _ _ ?_ (fun hHeld => ?_)
        · exact anyW _
        clear hK K
        try simp only [Act.put]
        refine wpAnyH_ready (rs := [7]) (by kernel_rfl) (by simp) ?_
        refine AllReadyH.cons (o := oI6_7) rfl (fun K hK => ?_) (AllReadyH.nil)
        dsimp only [oI6_7]
        simp only [Region.wanted, if_true]
        refine op_store_irow 24 (.tmp 4) (.tmp 24) rfl (g := G + 1) (t := 24) (k := .u8) (xs := num r2) (ys := num r3) rfl rfl HI.out.rr (size_numN r3) (same_length _ _) ?_
        have HI := Lib.hid (HI.out.setR HG.out r3)
        refine hK.out _ _ ?_ (fun hHeld => ?_)
        · exact anyW _
        clear hK K
        try simp only [Act.put]
        refine wpAnyH_done (by kernel_rfl) ?_ _
        exact HQ.out _ _ _ _ _ _ _ HI.out
  · as_aux_lemma =>
    dsimp only [oI6_4]
    simp only [Region.wanted, if_true]
    refine wp_load_mid 24 (.tmp 1) rfl w.heap.size 0 rfl ((num d).map (Value.int .u8)) _ HI.out.rd.range Tryd.underlying24 rfl (by rw [List.length_map]; exact size_numN d) ?_
    refine hK.out _ _ ?_ (fun hHeld => ?_)
    · exact anyW _
    clear hK K
    try simp only [Act.put, List.setIfInBounds_toArray, List.set_cons_zero, List.set_cons_succ]
    refine wpAnyH_ready (rs := [0, 1, 3]) (by kernel_rfl) (by simp) ?_
    refine AllReadyH.cons (o := oI6_0) rfl (fun K hK => ?_) (AllReadyH.cons (o := oI6_1) rfl (fun K hK => ?_) (AllReadyH.cons (o := oI6_3) rfl (fun K hK => ?_) (AllReadyH.nil)))
    · as_aux_lemma =>
      dsimp only [oI6_0]
      simp only [Region.wanted, if_true]
      refine wp_load_mid 24 (.tmp 3) rfl G 0 rfl ((num q2).map (Value.int .u8)) _ HI.out.rg.range Tryd.underlying24 rfl (by rw [List.length_map]; exact size_numN q2) ?_
      refine hK.out _ _ ?_ (fun hHeld => ?_)
      · exact anyW _
      clear hK K
      try simp only [Act.put, List.setIfInBounds_toArray, List.set_cons_zero, List.set_cons_succ]
      refine wpAnyH_ready (rs := [1, 3]) (by kernel_rfl) (by simp) ?_
      refine AllReadyH.cons (o := oI6_1) rfl (fun K hK => ?_) (AllReadyH.cons (o := oI6_3) rfl (fun K hK => ?_) (AllReadyH.nil))
      · as_aux_lemma =>
        dsimp only [oI6_1]
        go_simp
        refine (one_any _).mono ?_
        rintro e w4 ⟨rfl, hb4⟩
        have HI := Lib.hid (HI.out.below hb4)
        clear hb4
        go_simp
        refine hK.out _ _ ?_ (fun hHeld => ?_)
        · exact anyW _
        clear hK K
        try simp only [Act.put, List.setIfInBounds_toArray, List.set_cons_zero, List.set_cons_succ]
        refine wpAnyH_ready (rs := [2, 3]) (by kernel_rfl) (by simp) ?_
        refine AllReadyH.cons (o := oI6_2) rfl (fun K hK => ?_) (AllReadyH.cons (o := oI6_3) rfl (fun K hK => ?_) (AllReadyH.nil))
        · as_aux_lemma =>
          dsimp only [oI6_2]
          go_simp
          refine (HA3.out _).mono ?_
          rintro e w4 ⟨rfl, hb4⟩
          have HI := Lib.hid (HI.out.below hb4)
          clear hb4
          go_simp
          refine hK.out _ _ ?_ (fun hHeld => ?_)
          · exact anyW _
          clear hK K
          try simp only [Act.put, List.setIfInBounds_toArray, List.set_cons_zero, List.set_cons_succ]
          refine wpAnyH_ready (rs := [3]) (by kernel_rfl) (by simp) ?_
          refine AllReadyH.cons (o := oI6_3) rfl (fun K hK => ?_) (AllReadyH.nil)
          dsimp only [oI6_3]
          simp only [Region.wanted, if_true]
          refine wp_load_mid 24 (.tmp 4) rfl (G + 1) 0 rfl ((num r2).map (Value.int .u8)) _ HI.out.rr.range Tryd.underlying24 rfl (by rw [List.length_map]; exact size_numN r2) ?_
          refine hK.out _ _ ?_ (fun hHeld => ?_)
          · exact anyW _
          clear hK K
          try simp only [Act.put, List.setIfInBounds_toArray, List.set_cons_zero, List.set_cons_succ]
          refine wpAnyH_ready (rs := [5]) (by kernel_rfl) (by simp) ?_
          refine AllReadyH.cons (o := oI6_5) rfl (fun K hK => ?_) (AllReadyH.nil)
          dsimp only [oI6_5]
          go_simp
          refine (HA4.out _).mono ?_
          rintro e w4 ⟨rfl, hb4⟩
          have HI := Lib.hid (HI.out.below hb4)
          clear hb4
          go_simp
          refine hK.out _ _ ?_ (fun hHeld => ?_)
          · exact anyW _
          clear hK K
          try simp only [Act.put, List.setIfInBounds_toArray, List.set_cons_zero, List.set_cons_succ]
          refine wpAnyH_ready (rs := [6]) (by kernel_rfl) (by simp) ?_
          refine AllReadyH.cons (o := oI6_6) rfl (fun K hK => ?_) (AllReadyH.nil)
          dsimp only [oI6_6]
          simp only [Region.wanted, if_true]
          refine op_store_irow 24 (.tmp 3) (.tmp 21) rfl (g := G) (t := 24) (k := .u8) (xs := num q2) (ys := num q3) rfl rfl HI.out.rg (size_numN q3) (same_length _ _) ?_
          have HI := Lib.hid (HI.out.setG HG.out q3)
          refine hK.out _ _ ?_ (fun hHeld => ?_)
          · exact anyW _
          clear hK K
          try simp only [Act.put]
          refine wpAnyH_ready (rs := [7]) (by kernel_rfl) (by simp) ?_
          refine AllReadyH.cons (o := oI6_7) rfl (fun K hK => ?_) (AllReadyH.nil)
          dsimp only [oI6_7]
          simp only [Region.wanted, if_true]
          refine op_store_irow 24 (.tmp 4) (.tmp 24) rfl (g := G + 1) (t := 24) (k := .u8) (xs := num r2) (ys := num r3) rfl rfl HI.out.rr (size_numN r3) (same_length _ _) ?_
          have HI := Lib.hid (HI.out.setR HG.out r3)
          refine hK.out _ _ ?_ (fun hHeld => ?_)
          · exact anyW _
          clear hK K
          try simp only [Act.put]
          refine wpAnyH_done (by kernel_rfl) ?_ _
          exact HQ.out _ _ _ _ _ _ _ HI.out
        · as_aux_lemma =>
          dsimp only [oI6_3]
          simp only [Region.wanted, if_true]
          refine wp_load_mid 24 (.tmp 4) rfl (G + 1) 0 rfl ((num r2).map (Value.int .u8)) _ HI.out.rr.range Tryd.underlying24 rfl (by rw [List.length_map]; exact size_numN r2) ?_
          refine hK.out _ _ ?_ (fun hHeld => ?_)
          · exact anyW _
          clear hK K
          try simp only [Act.put, List.setIfInBounds_toArray, List.set_cons_zero, List.set_cons_succ]
          refine wpAnyH_ready (rs := [2]) (by kernel_rfl) (by simp) ?_
          refine AllReadyH.cons (o := oI6_2) rfl (fun K hK => ?_) (AllReadyH.nil)
          dsimp only [oI6_2]
          go_simp
          refine (HA3.out _).mono ?_
          rintro e w4 ⟨rfl, hb4⟩
          have HI := Lib.hid (HI.out.below hb4)
          clear hb4
          go_simp
          refine hK.out _ _ ?_ (fun hHeld => ?_)
          · exact anyW _
          clear hK K
          try simp only [Act.put, List.setIfInBounds_toArray, List.set_cons_zero, List.set_cons_succ]
          refine wpAnyH_ready (rs := [5]) (by kernel_rfl) (by simp) ?_
          refine AllReadyH.cons (o := oI6_5) rfl (fun K hK => ?_) (AllReadyH.nil)
          dsimp only [oI6_5]
          go_simp
          refine (HA4.out _).mono ?_
          rintro e w4 ⟨rfl, hb4⟩
          have HI := Lib.hid (HI.out.below hb4)
          clear hb4
          go_simp
          refine hK.out _ _ ?_ (fun hHeld => ?_)
          · exact anyW _
          clear hK K
          try simp only [Act.put, List.setIfInBounds_toArray, List.set_cons_zero, List.set_cons_succ]
          refine wpAnyH_ready (rs := [6]) (by kernel_rfl) (by simp) ?_
          refine AllReadyH.cons (o := oI6_6) rfl (fun K hK => ?_) (AllReadyH.nil)
          dsimp only [oI6_6]
          simp only [Region.wanted, if_true]
          refine op_store_irow 24 (.tmp 3) (.tmp 21) rfl (g := G) (t := 24) (k := .u8) (xs := num q2) (ys := num q3) rfl rfl HI.out.rg (size_numN q3) (same_length _ _) ?_
          have HI := Lib.hid (HI.out.setG HG.out q3)
          refine hK.out _ _ ?_ (fun hHeld => ?_)
          · exact anyW _
          clear hK K
          try simp only [Act.put]
          refine wpAnyH_ready (rs := [7]) (by kernel_rfl) (by simp) ?_
          refine AllReadyH.cons (o := oI6_7) rfl (fun K hK => ?_) (AllReadyH.nil)
          dsimp only [oI6_7]
          simp only [Region.wanted, if_true]
          refine op_store_irow 24 (.tmp 4) (.tmp 24) rfl (g := G + 1) (t := 24) (k := .u8) (xs := num r2) (ys := num r3) rfl rfl HI.out.rr (size_numN r3) (same_length _ _) ?_
          have HI := Lib.hid (HI.out.setR HG.out r3)
          refine hK.out _ _ ?_ (fun hHeld => ?_)
          · exact anyW _
          clear hK K
          try simp only [Act.put]
          refine wpAnyH_done (by kernel_rfl) ?_ _
          exact HQ.out _ _ _ _ _ _ _ HI.out
      · as_aux_lemma =>
        dsimp only [oI6_3]
        simp only [Region.wanted, if_true]
        refine wp_load_mid 24 (.tmp 4) rfl (G + 1) 0 rfl ((num r2).map (Value.int .u8)) _ HI.out.rr.range Tryd.underlying24 rfl (by rw [List.length_map]; exact size_numN r2) ?_
        refine hK.out _ _ ?_ (fun hHeld => ?_)
        · exact anyW _
        clear hK K
        try simp only [Act.put, List.setIfInBounds_toArray, List.set_cons_zero, List.set_cons_succ]
        refine wpAnyH_ready (rs := [1]) (by kernel_rfl) (by simp) ?_
        refine AllReadyH.cons (o := oI6_1) rfl (fun K hK => ?_) (AllReadyH.nil)
        dsimp only [oI6_1]
        go_simp
        refine (one_any _).mono ?_
        rintro e w4 ⟨rfl, hb4⟩
        have HI := Lib.hid (HI.out.below hb4)
        clear hb4
        go_simp
        refine hK.out _ _ ?_ (fun hHeld => ?_)
        · exact anyW _
        clear hK K
        try simp only [Act.put, List.setIfInBounds_toArray, List.set_cons_zero, List.set_cons_succ]
        refine wpAnyH_ready (rs := [2]) (by kernel_rfl) (by simp) ?_
        refine AllReadyH.cons (o := oI6_2) rfl (fun K hK => ?_) (AllReadyH.nil)
        dsimp only [oI6_2]
        go_simp
        refine (HA3.out _).mono ?_
        rintro e w4 ⟨rfl, hb4⟩
        have HI := Lib.hid (HI.out.below hb4)
        clear hb4
        go_simp
        refine hK.out _ _ ?_ (fun hHeld => ?_)
        · exact anyW _
        clear hK K
        try simp only [Act.put, List.setIfInBounds_toArray, List.set_cons_zero, List.set_cons_succ]
        refine wpAnyH_ready (rs := [5]) (by kernel_rfl) (by simp) ?_
        refine AllReadyH.cons (o := oI6_5) rfl (fun K hK => ?_) (AllReadyH.nil)
        dsimp only [oI6_5]
        go_simp
        refine (HA4.out _).mono ?_
        rintro e w4 ⟨rfl, hb4⟩
        have HI := Lib.hid (HI.out.below hb4)
        clear hb4
        go_simp
        refine hK.out _ _ ?_ (fun hHeld => ?_)
        · exact anyW _
        clear hK K
        try simp only [Act.put, List.setIfInBounds_toArray, List.set_cons_zero, List.set_cons_succ]
        refine wpAnyH_ready (rs := [6]) (by kernel_rfl) (by simp) ?_
        refine AllReadyH.cons (o := oI6_6) rfl (fun K hK => ?_) (AllReadyH.nil)
        dsimp only [oI6_6]
        simp only [Region.wanted, if_true]
        refine op_store_irow 24 (.tmp 3) (.tmp 21) rfl (g := G) (t := 24) (k := .u8) (xs := num q2) (ys := num q3) rfl rfl HI.out.rg (size_numN q3) (same_length _ _) ?_
        have HI := Lib.hid (HI.out.setG HG.out q3)
        refine hK.out _ _ ?_ (fun hHeld => ?_)
        · exact anyW _
        clear hK K
        try simp only [Act.put]
        refine wpAnyH_ready (rs := [7]) (by kernel_rfl) (by simp) ?_
        refine AllReadyH.cons (o := oI6_7) rfl (fun K hK => ?_) (AllReadyH.nil)
        dsimp only [oI6_7]
        simp only [Region.wanted, if_true]
        refine op_store_irow 24 (.tmp 4) (.tmp 24) rfl (g := G + 1) (t := 24) (k := .u8) (xs := num r2) (ys := num r3) rfl rfl HI.out.rr (size_numN r3) (same_length _ _) ?_
        have HI := Lib.hid (HI.out.setR HG.out r3)
        refine hK.out _ _ ?_ (fun hHeld => ?_)
        · exact anyW _
        clear hK K
        try simp only [Act.put]
        refine wpAnyH_done (by kernel_rfl) ?_ _
        exact HQ.out _ _ _ _ _ _ _ HI.out
    · as_aux_lemma =>
      dsimp only [oI6_1]
      go_simp
      refine (one_any _).mono ?_
      rintro e w4 ⟨rfl, hb4⟩
      have HI := Lib.hid (HI.out.below hb4)
      clear hb4
      go_simp
      refine hK.out _ _ ?_ (fun hHeld => ?_)
      · exact anyW _
      clear hK K
      try simp only [Act.put, List.setIfInBounds_toArray, List.set_cons_zero, List.set_cons_succ]
      refine wpAnyH_ready (rs := [0, 3]) (by kernel_rfl) (by simp) ?_
      refine AllReadyH.cons (o := oI6_0) rfl (fun K hK => ?_) (AllReadyH.cons (o := oI6_3) rfl (fun K hK => ?_) (AllReadyH.nil))
      · as_aux_lemma =>
        dsimp only [oI6_0]
        simp only [Region.wanted, if_true]
        refine wp_load_mid 24 (.tmp 3) rfl G 0 rfl ((num q2).map (Value.int .u8)) _ HI.out.rg.range Tryd.underlying24 rfl (by rw [List.length_map]; exact size_numN q2) ?_
        refine hK.out _ _ ?_ (fun hHeld => ?_)
        · exact anyW _
        clear hK K
        try simp only [Act.put, List.setIfInBounds_toArray, List.set_cons_zero, List.set_cons_succ]
        refine wpAnyH_ready (rs := [2, 3]) (by kernel_rfl) (by simp) ?_
        refine AllReadyH.cons (o := oI6_2) rfl (fun K hK => ?_) (AllReadyH.cons (o := oI6_3) rfl (fun K hK => ?_) (AllReadyH.nil))
        · as_aux_lemma =>
          dsimp only [oI6_2]
          go_simp
          refine (HA3.out _).mono ?_
          rintro e w4 ⟨rfl, hb4⟩
          have HI := Lib.hid (HI.out.below hb4)
          clear hb4
          go_simp
          refine hK.out _ _ ?_ (fun hHeld => ?_)
          · exact anyW _
          clear hK K
          try simp only [Act.put, List.setIfInBounds_toArray, List.set_cons_zero, List.set_cons_succ]
          refine wpAnyH_ready (rs := [3]) (by kernel_rfl) (by simp) ?_
          refine AllReadyH.cons (o := oI6_3) rfl (fun K hK => ?_) (AllReadyH.nil)
          dsimp only [oI6_3]
          simp only [Region.wanted, if_true]
          refine wp_load_mid 24 (.tmp 4) rfl (G + 1) 0 rfl ((num r2).map (Value.int .u8)) _ HI.out.rr.range Tryd.underlying24 rfl (by rw [List.length_map]; exact size_numN r2) ?_
          refine hK.out _ _ ?_ (fun hHeld => ?_)
          · exact anyW _
          clear hK K
          try simp only [Act.put, List.setIfInBounds_toArray, List.set_cons_zero, List.set_cons_succ]
          refine wpAnyH_ready (rs := [5]) (by kernel_rfl) (by simp) ?_
          refine AllReadyH.cons (o := oI6_5) rfl (fun K hK => ?_) (AllReadyH.nil)
          dsimp only [oI6_5]
          go_simp
          refine (HA4.out _).mono ?_
          rintro e w4 ⟨rfl, hb4⟩
          have HI := Lib.hid (HI.out.below hb4)
          clear hb4
          go_simp
          refine hK.out _ _ ?_ (fun hHeld => ?_)
          · exact anyW _
          clear hK K
          try simp only [Act.put, List.setIfInBounds_toArray, List.set_cons_zero, List.set_cons_succ]
          refine wpAnyH_ready (rs := [6]) (by kernel_rfl) (by simp) ?_
          refine AllReadyH.cons (o := oI6_6) rfl (fun K hK => ?_) (AllReadyH.nil)
          dsimp only [oI6_6]
          simp only [Region.wanted, if_true]
          refine op_store_irow 24 (.tmp 3) (.tmp 21) rfl (g := G) (t := 24) (k := .u8) (xs := num q2) (ys := num q3) rfl rfl HI.out.rg (size_numN q3) (same_length _ _) ?_
          have HI := Lib.hid (HI.out.setG HG.out q3)
          refine hK.out _ _ ?_ (fun hHeld => ?_)
          · exact anyW _
          clear hK K
          try simp only [Act.put]
          refine wpAnyH_ready (rs := [7]) (by kernel_rfl) (by simp) ?_
          refine AllReadyH.cons (o := oI6_7) rfl (fun K hK => ?_) (AllReadyH.nil)
          dsimp only [oI6_7]
          simp only [Region.wanted, if_true]
          refine op_store_irow 24 (.tmp 4) (.tmp 24) rfl (g := G + 1) (t := 24) (k := .u8) (xs := num r2) (ys := num r3) rfl rfl HI.out.rr (size_numN r3) (same_length _ _) ?_
          have HI := Lib.hid (HI.out.setR HG.out r3)
          refine hK.out _ _ ?_ (fun hHeld => ?_)
          · exact anyW _
          clear hK K
          try simp only [Act.put]
          refine wpAnyH_done (by kernel_rfl) ?_ _
          exact HQ.out _ _ _ _ _ _ _ HI.out
        · as_aux_lemma =>
          dsimp only [oI6_3]
          simp only [Region.wanted, if_true]
          refine wp_load_mid 24 (.tmp 4) rfl (G + 1) 0 rfl ((num r2).map (Value.int .u8)) _ HI.out.rr.range Tryd.underlying24 rfl (by rw [List.length_map]; exact size_numN r2) ?_
          refine hK.out _ _ ?_ (fun hHeld => ?_)
          · exact anyW _
          clear hK K
          try simp only [Act.put, List.setIfInBounds_toArray, List.set_cons_zero, List.set_cons_succ]
          refine wpAnyH_ready (rs := [2]) (by kernel_rfl) (by simp) ?_
          refine AllReadyH.cons (o := oI6_2) rfl (fun K hK => ?_) (AllReadyH.nil)
          dsimp only [oI6_2]
          go_simp
          refine (HA3.out _).mono ?_
          rintro e w4 ⟨rfl, hb4⟩
          have HI := Lib.hid (HI.out.below hb4)
          clear hb4
          go_simp
          refine hK.out _ _ ?_ (fun hHeld => ?_)
          · exact anyW _
          clear hK K
          try simp only [Act.put, List.setIfInBounds_toArray, List.set_cons_zero, List.set_cons_succ]
          refine wpAnyH_ready (rs := [5]) (by kernel_rfl) (by simp) ?_
          refine AllReadyH.cons (o := oI6_5) rfl (fun K hK => ?_) (AllReadyH.nil)
          dsimp only [oI6_5]
          go_simp
          refine (HA4.out _).mono ?_
          rintro e w4 ⟨rfl, hb4⟩
          have HI := Lib.hid (HI.out.below hb4)
          clear hb4
          go_simp
          refine hK.out _ _ ?_ (fun hHeld => ?_)
          · exact anyW _
          clear hK K
          try simp only [Act.put, List.setIfInBounds_toArray, List.set_cons_zero, List.set_cons_succ]
          refine wpAnyH_ready (rs := [6]) (by kernel_rfl) (by simp) ?_
          refine AllReadyH.cons (o := oI6_6) rfl (fun K hK => ?_) (AllReadyH.nil)
          dsimp only [oI6_6]
          simp only [Region.wanted, if_true]
          refine op_store_irow 24 (.tmp 3) (.tmp 21) rfl (g := G) (t := 24) (k := .u8) (xs := num q2) (ys := num q3) rfl rfl HI.out.rg (size_numN q3) (same_length _ _) ?_
          have HI := Lib.hid (HI.out.setG HG.out q3)
          refine hK.out _ _ ?_ (fun hHeld => ?_)
          · exact anyW _
          clear hK K
          try simp only [Act.put]
          refine wpAnyH_ready (rs := [7]) (by kernel_rfl) (by simp) ?_
          refine AllReadyH.cons (o := oI6_7) rfl (fun K hK => ?_) (AllReadyH.nil)
          dsimp only [oI6_7]
          simp only [Region.wanted, if_true]
          refine op_store_irow 24 (.tmp 4) (.tmp 24) rfl (g := G + 1) (t := 24) (k := .u8) (xs := num r2) (ys := num r3) rfl rfl HI.out.rr (size_numN r3) (same_length _ _) ?_
          have HI := Lib.hid (HI.out.setR HG.out r3)
          refine hK.out _ _ ?_ (fun hHeld => ?_)
          · exact anyW _
          clear hK K
          try simp only [Act.put]
          refine wpAnyH_done (by kernel_rfl) ?_ _
          exact HQ.out _ _ _ _ _ _ _ HI.out
      · as_aux_lemma =>
        dsimp only [oI6_3]
        simp only [Region.wanted, if_true]
        refine wp_load_mid 24 (.tmp 4) rfl (G + 1) 0 rfl ((num r2).map (Value.int .u8)) _ HI.out.rr.range Tryd.underlying24 rfl (by rw [List.length_map]; exact size_numN r2) ?_
        refine hK.out _ _ ?_ (fun hHeld => ?_)
        · exact anyW _
        clear hK K
        try simp only [Act.put, List.setIfInBounds_toArray, List.set_cons_zero, List.set_cons_succ]
        refine wpAnyH_ready (rs := [0]) (by kernel_rfl) (by simp) ?_
        refine AllReadyH.cons (o := oI6_0) rfl (fun K hK => ?_) (AllReadyH.nil)
        dsimp only [oI6_0]
        simp only [Region.wanted, if_true]
        refine wp_load_mid 24 (.tmp 3) rfl G 0 rfl ((num q2).map (Value.int .u8)) _ HI.out.rg.range Tryd.underlying24 rfl (by rw [List.length_map]; exact size_numN q2) ?_
        refine hK.out _ _ ?_ (fun hHeld => ?_)
        · exact anyW _
        clear hK K
        try simp only [Act.put, List.setIfInBounds_toArray, List.set_cons_zero, List.set_cons_succ]
        refine wpAnyH_ready (rs := [2]) (by kernel_rfl) (by simp) ?_
        refine AllReadyH.cons (o := oI6_2) rfl (fun K hK => ?_) (AllReadyH.nil)
        dsimp only [oI6_2]
        go_simp
        refine (HA3.out _).mono ?_
        rintro e w4 ⟨rfl, hb4⟩
        have HI := Lib.hid (HI.out.below hb4)
        clear hb4
        go_simp
        refine hK.out _ _ ?_ (fun hHeld => ?_)
        · exact anyW _
        clear hK K
        try simp only [Act.put, List.setIfInBounds_toArray, List.set_cons_zero, List.set_cons_succ]
        refine wpAnyH_ready (rs := [5]) (by kernel_rfl) (by simp) ?_
        refine AllReadyH.cons (o := oI6_5) rfl (fun K hK => ?_) (AllReadyH.nil)
        dsimp only [oI6_5]
        go_simp
        refine (HA4.out _).mono ?_
        rintro e w4 ⟨rfl, hb4⟩
        have HI := Lib.hid (HI.out.below hb4)
        clear hb4
        go_simp
        refine hK.out _ _ ?_ (fun hHeld => ?_)
        · exact anyW _
        clear hK K
        try simp only [Act.put, List.setIfInBounds_toArray, List.set_cons_zero, List.set_cons_succ]
        refine wpAnyH_ready (rs := [6]) (by kernel_rfl) (by simp) ?_
        refine AllReadyH.cons (o := oI6_6) rfl (fun K hK => ?_) (AllReadyH.nil)
        dsimp only [oI6_6]
        simp only [Region.wanted, if_true]
        refine op_store_irow 24 (.tmp 3) (.tmp 21) rfl (g := G) (t := 24) (k := .u8) (xs := num q2) (ys := num q3) rfl rfl HI.out.rg (size_numN q3) (same_length _ _) ?_
        have HI := Lib.hid (HI.out.setG HG.out q3)
        refine hK.out _ _ ?_ (fun hHeld => ?_)
        · exact anyW _
        clear hK K
        try simp only [Act.put]
        refine wpAnyH_ready (rs := [7]) (by kernel_rfl) (by simp) ?_
        refine AllReadyH.cons (o := oI6_7) rfl (fun K hK => ?_) (AllReadyH.nil)
        dsimp only [oI6_7]
        simp only [Region.wanted, if_true]
        refine op_store_irow 24 (.tmp 4) (.tmp 24) rfl (g := G + 1) (t := 24) (k := .u8) (xs := num r2) (ys := num r3) rfl rfl HI.out.rr (size_numN r3) (same_length _ _) ?_
        have HI := Lib.hid (HI.out.setR HG.out r3)
        refine hK.out _ _ ?_ (fun hHeld => ?_)
        · exact anyW _
        clear hK K
        try simp only [Act.put]
        refine wpAnyH_done (by kernel_rfl) ?_ _
        exact HQ.out _ _ _ _ _ _ _ HI.out
    · as_aux_lemma =>
      dsimp only [oI6_3]
      simp only [Region.wanted, if_true]
      refine wp_load_mid 24 (.tmp 4) rfl (G + 1) 0 rfl ((num r2).map (Value.int .u8)) _ HI.out.rr.range Tryd.underlying24 rfl (by rw [List.length_map]; exact size_numN r2) ?_
      refine hK.out _ _ ?_ (fun hHeld => ?_)
      · exact anyW _
      clear hK K
      try simp only [Act.put, List.setIfInBounds_toArray, List.set_cons_zero, List.set_cons_succ]
      refine wpAnyH_ready (rs := [0, 1]) (by kernel_rfl) (by simp) ?_
      refine AllReadyH.cons (o := oI6_0) rfl (fun K hK => ?_) (AllReadyH.cons (o := oI6_1) rfl (fun K hK => ?_) (AllReadyH.nil))
      · as_aux_lemma =>
        dsimp only [oI6_0]
        simp only [Region.wanted, if_true]
        refine wp_load_mid 24 (.tmp 3) rfl G 0 rfl ((num q2).map (Value.int .u8)) _ HI.out.rg.range Tryd.underlying24 rfl (by rw [List.length_map]; exact size_numN q2) ?_
        refine hK.out _ _ ?_ (fun hHeld => ?_)
        · exact anyW _
        clear hK K
        try simp only [Act.put, List.setIfInBounds_toArray, List.set_cons_zero, List.set_cons_succ]
        refine wpAnyH_ready (rs := [1]) (by kernel_rfl) (by simp) ?_
        refine AllReadyH.cons (o := oI6_1) rfl (fun K hK => ?_) (AllReadyH.nil)
        dsimp only [oI6_1]
        go_simp
        refine (one_any _).mono ?_
        rintro e w4 ⟨rfl, hb4⟩
        have HI := Lib.hid (HI.out.below hb4)
        clear hb4
        go_simp
        refine hK.out _ _ ?_ (fun hHeld => ?_)
        · exact anyW _
        clear hK K
        try simp only [Act.put, List.setIfInBounds_toArray, List.set_cons_zero, List.set_cons_succ]
        refine wpAnyH_ready (rs := [2]) (by kernel_rfl) (by simp) ?_
        refine AllReadyH.cons (o := oI6_2) rfl (fun K hK => ?_) (AllReadyH.nil)
        dsimp only [oI6_2]
        go_simp
        refine (HA3.out _).mono ?_
        rintro e w4 ⟨rfl, hb4⟩
        have HI := Lib.hid (HI.out.below hb4)
        clear hb4
        go_simp
        refine hK.out _ _ ?_ (fun hHeld => ?_)
        · exact anyW _
        clear hK K
        try simp only [Act.put, List.setIfInBounds_toArray, List.set_cons_zero, List.set_cons_succ]
        refine wpAnyH_ready (rs := [5]) (by kernel_rfl) (by simp) ?_
        refine AllReadyH.cons (o := oI6_5) rfl (fun K hK => ?_) (AllReadyH.nil)
        dsimp only [oI6_5]
        go_simp
        refine (HA4.out _).mono ?_
        rintro e w4 ⟨rfl, hb4⟩
        have HI := Lib.hid (HI.out.below hb4)
        clear hb4
        go_simp
        refine hK.out _ _ ?_ (fun hHeld => ?_)
        · exact anyW _
        clear hK K
        try simp only [Act.put, List.setIfInBounds_toArray, List.set_cons_zero, List.set_cons_succ]
        refine wpAnyH_ready (rs := [6]) (by kernel_rfl) (by simp) ?_
        refine AllReadyH.cons (o := oI6_6) rfl (fun K hK => ?_) (AllReadyH.nil)
        dsimp only [oI6_6]
        simp only [Region.wanted, if_true]
        refine op_store_irow 24 (.tmp 3) (.tmp 21) rfl (g := G) (t := 24) (k := .u8) (xs := num q2) (ys := num q3) rfl rfl HI.out.rg (size_numN q3) (same_length _ _) ?_
        have HI := Lib.hid (HI.out.setG HG.out q3)
        refine hK.out _ _ ?_ (fun hHeld => ?_)
        · exact anyW _
        clear hK K
        try simp only [Act.put]
        refine wpAnyH_ready (rs := [7]) (by kernel_rfl) (by simp) ?_
        refine AllReadyH.cons (o := oI6_7) rfl (fun K hK => ?_) (AllReadyH.nil)
        dsimp only [oI6_7]
        simp only [Region.wanted, if_true]
        refine op_store_irow 24 (.tmp 4) (.tmp 24) rfl (g := G + 1) (t := 24) (k := .u8) (xs := num r2) (ys := num r3) rfl rfl HI.out.rr (size_numN r3) (same_length _ _) ?_
        have HI := Lib.hid (HI.out.setR HG.out r3)
        refine hK.out _ _ ?_ (fun hHeld => ?_)
        · exact anyW _
        clear hK K
        try simp only [Act.put]
        refine wpAnyH_done (by kernel_rfl) ?_ _
        exact HQ.out _ _ _ _ _ _ _ HI.out
      · as_aux_lemma =>
        dsimp only [oI6_1]
        go_simp
        refine (one_any _).mono ?_
        rintro e w4 ⟨rfl, hb4⟩
        have HI := Lib.hid (HI.out.below hb4)
        clear hb4
        go_simp
        refine hK.out _ _ ?_ (fun hHeld => ?_)
        · exact anyW _
        clear hK K
        try simp only [Act.put, List.setIfInBounds_toArray, List.set_cons_zero, List.set_cons_succ]
        refine wpAnyH_ready (rs := [0]) (by kernel_rfl) (by simp) ?_
        refine AllReadyH.cons (o := oI6_0) rfl (fun K hK => ?_) (AllReadyH.nil)
        dsimp only [oI6_0]
        simp only [Region.wanted, if_true]
        refine wp_load_mid 24 (.tmp 3) rfl G 0 rfl ((num q2).map (Value.int .u8)) _ HI.out.rg.range Tryd.underlying24 rfl (by rw [List.length_map]; exact size_numN q2) ?_
        refine hK.out _ _ ?_ (fun hHeld => ?_)
        · exact anyW _
        clear hK K
        try simp only [Act.put, List.setIfInBounds_toArray, List.set_cons_zero, List.set_cons_succ]
        refine wpAnyH_ready (rs := [2]) (by kernel_rfl) (by simp) ?_
        refine AllReadyH.cons (o := oI6_2) rfl (fun K hK => ?_) (AllReadyH.nil)
        dsimp only [oI6_2]
        go_simp
        refine (HA3.out _).mono ?_
        rintro e w4 ⟨rfl, hb4⟩
        have HI := Lib.hid (HI.out.below hb4)
        clear hb4
        go_simp
        refine hK.out _ _ ?_ (fun hHeld => ?_)
        · exact anyW _
        clear hK K
        try simp only [Act.put, List.setIfInBounds_toArray, List.set_cons_zero, List.set_cons_succ]
        refine wpAnyH_ready (rs := [5]) (by kernel_rfl) (by simp) ?_
        refine AllReadyH.cons (o := oI6_5) rfl (fun K hK => ?_) (AllReadyH.nil)
        dsimp only [oI6_5]
        go_simp
        refine (HA4.out _).mono ?_
        rintro e w4 ⟨rfl, hb4⟩
        have HI := Lib.hid (HI.out.below hb4)
        clear hb4
        go_simp
        refine hK.out _ _ ?_ (fun hHeld => ?_)
        · exact anyW _
        clear hK K
        try simp only [Act.put, List.setIfInBounds_toArray, List.set_cons_zero, List.set_cons_succ]
        refine wpAnyH_ready (rs := [6]) (by kernel_rfl) (by simp) ?_
        refine AllReadyH.cons (o := oI6_6) rfl (fun K hK => ?_) (AllReadyH.nil)
        dsimp only [oI6_6]
        simp only [Region.wanted, if_true]
        refine op_store_irow 24 (.tmp 3) (.tmp 21) rfl (g := G) (t := 24) (k := .u8) (xs := num q2) (ys := num q3) rfl rfl HI.out.rg (size_numN q3) (same_length _ _) ?_
        have HI := Lib.hid (HI.out.setG HG.out q3)
        refine hK.out _ _ ?_ (fun hHeld => ?_)
        · exact anyW _
        clear hK K
        try simp only [Act.put]
        refine wpAnyH_ready (rs := [7]) (by kernel_rfl) (by simp) ?_
        refine AllReadyH.cons (o := oI6_7) rfl (fun K hK => ?_) (AllReadyH.nil)
        dsimp only [oI6_7]
        simp only [Region.wanted, if_true]
        refine op_store_irow 24 (.tmp 4) (.tmp 24) rfl (g := G + 1) (t := 24) (k := .u8) (xs := num r2) (ys := num r3) rfl rfl HI.out.rr (size_numN r3) (same_length _ _) ?_
        have HI := Lib.hid (HI.out.setR HG.out r3)
        refine hK.out _ _ ?_ (fun hHeld => ?_)
        · exact anyW _
        clear hK K
        try simp only [Act.put]
        refine wpAnyH_done (by kernel_rfl) ?_ _
        exact HQ.out _ _ _ _ _ _ _ HI.out

end Go.Proofs.YtgkocmljnoambaaDoor
