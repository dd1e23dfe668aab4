/-
  Slices of slices of bytes: rows of the call's own, append of one, is there one of a kind. Conditions: sizes within the reach.
-/
import Derived.Test.YtadgaeokiolmmaaSnKind
namespace Go.Proofs.Ytadgaeokiolmmaa
open Go.RowKit

/-- A row of the call's own, each one's bytes in a block of the call's own. -/
def BagAt (w : World) (base : Nat) (v : Value) (L : List (Value × List UInt8)) : Prop :=
  w.ownsRow base 22 1 v L.length (L.map (·.1)) ∧ ∀ p ∈ L, OwnB w base p.1 p.2
theorem BagAt.nil (w : World) (base : Nat) : BagAt w base (.slice none 0 0) [] := ⟨World.ownsRow_nil _ _ _ _, fun _ h => by cases h⟩
theorem BagAt.form {w : World} {base : Nat} {v : Value} {L : List (Value × List UInt8)} (h : BagAt w base v L) : ∃ A c, v = .slice A L.length c := own_form h.1
theorem BagAt.base {w : World} {b b' : Nat} {v : Value} {L : List (Value × List UInt8)} (h : BagAt w b v L) (hb : b' ≤ b) : BagAt w b' v L := ⟨own_base h.1 hb, fun p hp => own_base (h.2 p hp) hb⟩
theorem BagAt.turns {S : Nat → Prop} {w w' : World} {base : Nat} {v : Value} {L : List (Value × List UInt8)} (h : BagAt w base v L) (ht : Turns S w w') (hv : ∀ k, v.ownBlock = some k → ¬ S k) (hL : ∀ p ∈ L, ∀ k, p.1.ownBlock = some k → ¬ S k) : BagAt w' base v L :=
  ⟨own_turns h.1 ht hv, fun p hp => own_turns (h.2 p hp) ht (hL p hp)⟩
theorem BagAt.below {w w' : World} {base : Nat} {v : Value} {L : List (Value × List UInt8)} (h : BagAt w base v L) (hb : Below w.heap.size w w') : BagAt w' base v L :=
  h.turns (Turns.of_below (S := fun _ => False) hb) (fun _ _ h => h) (fun _ _ _ _ h => h)
theorem BagAt.toR {w : World} {base : Nat} {v : Value} {L : List (Value × List UInt8)} (h : BagAt w base v L) : BagR w w.heap.size v L := by
  refine ⟨?_, fun p hp => Byt.of_own (h.2 p hp)⟩
  rcases h.1.2 with ⟨rfl, hn⟩ | ⟨g, cap, cur, rfl, hb, hg, hnc, hcm, hcs, ht⟩
  · obtain rfl : L = [] := List.eq_nil_of_length_eq_zero hn
    exact ⟨none, 0, rfl, Nat.le_refl _, by unfold maxLen; omega, fun h => absurd rfl h⟩
  · refine ⟨some ⟨g, 0, none⟩, cap, rfl, hnc, hcm, fun hne => ⟨g, 0, rfl, (h.1.lt g rfl).2, fun i p hp => ?_⟩⟩
    have hi := (List.getElem?_eq_some_iff.1 hp).1
    rw [Nat.zero_add]
    refine (World.ownsRow.cellAt h.1 i (by omega)).trans ?_
    rw [List.getElem?_map, hp]
    rfl
theorem BagAt.snoc {w w' : World} {base n : Nat} {v v' : Value} {L : List (Value × List UInt8)} {p : Value × List UInt8} (h : BagAt w base v L) (hd : OwnB w base p.1 p.2)
    (hown : w'.ownsRow base 22 1 v' n (L.map (·.1) ++ [p.1])) (he : n = L.length + 1) (hg : w.grownBy w' v.ownBlock) : BagAt w' base v' (L ++ [p]) := by
  have ht : Turns (fun k => v.ownBlock = some k) w w' := (Turns.refl _ w).grown hg (fun k hk _ => hk)
  subst he
  refine ⟨by rw [List.map_append, List.length_append]; exact hown, fun q hq => ?_⟩
  rcases List.mem_append.1 hq with hq | hq
  · exact own_turns (h.2 q hq) ht (fun k hk hv => own_types h.1 (h.2 q hq) (by decide) hv hk)
  · obtain rfl : q = p := by simpa using hq
    exact own_turns hd ht (fun k hk hv => own_types h.1 hd (by decide) hv hk)

theorem info_bag : (Try.prog.info? 22).map (fun i => (i.zero, i.size, i.bytes)) = some (some (.slice none 0 0), 1, 24) := by kernel_rfl
theorem slice_bag : Try.prog.underlying 46 = some (.slice 22) := Try.underlying46

/-- append of one slice of bytes. -/
theorem wpList_append_bag {w : World} {ops : Array Oper} {rest : List Oper} {o : Oper} {a : Act} {Q : Exit → Act → World → Prop} (hgd : o.guard = none) (s x : Operand)
    (ho : o.op = .call { callee := .builtin .append, args := #[s, x], argTypes := #[46, 46] })
    (base : Nat) (v : Value) (n : Nat) (xs : List Value) (hs : a.eval s = v) (hown : w.ownsRow base 22 1 v n xs)
    (g : Nat) (u0 : Value) (hx : a.eval x = .slice (some ⟨g, 0, none⟩) 1 1) (h0 : w.cell? ⟨g, 0, none⟩ = some u0) (k0 : u0.oneCell' = true)
    (hb : (n + 1) * 24 ≤ 140737488355328) (hbase : base ≤ w.heap.size)
    (h : ∀ v' w', w'.ownsRow base 22 1 v' (n + 1) (xs ++ [u0]) → w.grownBy w' v.ownBlock → wpList Try.prog ops Q rest (a.put o.dst v') w') :
    wpList Try.prog ops Q (o :: rest) a w := by
  obtain ⟨i, hi, hz, hsz, hby⟩ := info_parts info_bag
  refine wpList_plain hgd fun K hK => ?_
  obtain ⟨v', w', hrun, h2, h3, _, _⟩ := run_append_own_at (P := Try.prog) w base 46 o.type 22 i _ 1 24 slice_bag hi hz hsz hby rfl (by decide) v n xs hown ⟨g, 0, none⟩ 1 1 [u0] rfl
    (by
      intro j u hu
      match j, hu with
      | 0, hu => exact Option.some.inj hu ▸ h0)
    (by intro u hu; simp at hu; rcases hu with rfl; exact k0) (by unfold maxLen; omega) hb hbase
  unfold Oper.wp execOp
  simp only [ho, resolve, invoke, builtin, Sem.run_bind, Sem.run_pure, Result.andThen_ok, List.map_toArray, List.map_cons, List.map_nil, hs, hx, hrun]
  exact hK _ _ (h v' w' h2 h3)

/-- Is there one among these, at the index that is answered? -/
def FoundG (w : World) (f : List UInt8 → Bool) (L : List (Value × List UInt8)) (e : Ending) (w' : World) : Prop := ∃ i : Int, e = .returned (.int .i64 i) ∧ decide (0 ≤ i) = L.any (fun p => f p.2) ∧ Below w.heap.size w w'
theorem anyG_take {f : List UInt8 → Bool} {L : List (Value × List UInt8)} {k : Nat} (h : k < L.length) : (L.take (k + 1)).any (fun p => f p.2) = ((L.take k).any (fun p => f p.2) || f L[k].2) := by
  rw [List.take_succ_eq_append_getElem h, List.any_append]
  simp

set_option maxRecDepth 100000 in
set_option maxHeartbeats 1600000 in
theorem index_bag (g : FuncId) (eg : ∀ args W, (callFunc g args).run Try.prog W = .ok (.enter g args) W) (f : List UInt8 → Bool) (hg : ∀ (B : Nat) (x : Value) (xs : List UInt8) (W : World), Byt W B x xs → Calls Try.prog g #[x] W fun e W' => e = .returned (.bool (f xs)) ∧ Below W.heap.size W W')
    (B : Nat) (x : Value) (L : List (Value × List UInt8)) (w : World) (hx : BagR w B x L) (hB : B ≤ w.heap.size) :
    Calls Try.prog 89 #[x, .func (.func g) #[] #[]] w (FoundG w f L) := by
  have hlen := hx.len
  obtain ⟨A, c, rfl⟩ := hx.form
  have HX := Lib.hid hx
  have HG := Lib.hid hg
  clear hx hg
  go_enter Try.func89, Try.ntmps89
  go_wp2_with fail
  go_loopw [8] (fun s wr => ∃ k : Nat, k ≤ L.length ∧ s = .int .i64 (k : Int) ∧ Hid ((L.take k).any (fun p => f p.2) = false) ∧ Hid (Below w.heap.size w wr)) (fun s _ => L.length - (intOf s).toNat)
  case atStart => exact ⟨0, Nat.zero_le _, rfl, Lib.hid (by simp), Lib.hid (Below.refl _ _)⟩
  case round =>
    obtain ⟨k, hk, rfl, hno, hbel⟩ := hrel
    by_cases hlt : k < L.length
    · have hx1 := HX.out.below (hbel.out.mono hB)
      obtain ⟨⟨A', c', e0, _, _, h4⟩, h5⟩ := hx1
      obtain ⟨e1, e2, e3⟩ := Value.slice.inj e0
      subst e1 e3
      clear e2
      obtain ⟨b, o, rfl, hb, hc⟩ := h4 (by rintro rfl; simp at hlt)
      have hc0 := hc k _ (List.getElem?_eq_getElem hlt)
      have hby := h5 _ (List.getElem_mem hlt)
      have hsn := anyG_take (f := f) hlt
      obtain ⟨⟨d, zs⟩, hq⟩ : ∃ q, q = L[k] := ⟨_, rfl⟩
      rw [← hq] at hc0 hby hsn
      dsimp only at hc0 hby hsn
      obtain ⟨Ad, cd, rfl⟩ := hby.form
      have HSN := Lib.hid hsn
      have HT := Lib.hid (HG.out _ _ zs wr hby)
      clear hc h4 h5 hq hsn e0 hby
      have hd : decide (k < L.length) = true := by simpa using hlt
      by_cases hq0 : f zs = true
      · rw [hq0] at HT HSN
        clear hq0
        go_wp2_with fail
        refine HT.out.mono ?_
        rintro e w1 ⟨rfl, hb1⟩
        go_wp2_with fail
        go_ret
        refine ⟨k, rfl, ?_, hbel.out.trans (hb1.mono hbel.out.size)⟩
        rw [decide_eq_true (by omega)]
        have h2 : (L.take (k + 1)).any (fun p => f p.2) = true := by rw [HSN.out]; simp
        symm
        rw [List.any_eq_true] at h2 ⊢
        obtain ⟨y, hy, hy2⟩ := h2
        exact ⟨y, List.mem_of_mem_take hy, hy2⟩
      · have hq1 : f zs = false := by simpa using hq0
        rw [hq1] at HT HSN
        clear hq0 hq1
        go_wp2_with fail
        refine HT.out.mono ?_
        rintro e w1 ⟨rfl, hb1⟩
        go_wp2_with fail
        go_roundw
        case rel => exact ⟨k + 1, by omega, by go_num, Lib.hid (by rw [HSN.out, hno.out]; rfl), Lib.hid (hbel.out.trans (hb1.mono hbel.out.size))⟩
        case measure => simp [intOf]; omega
    · obtain rfl : k = L.length := by omega
      go_wp2_with fail
      go_ret
      refine ⟨-1, rfl, ?_, hbel.out⟩
      have := hno.out
      rw [List.take_length] at this
      rw [this]
      rfl

set_option maxHeartbeats 800000 in
theorem contains_bag (g : FuncId) (eg : ∀ args W, (callFunc g args).run Try.prog W = .ok (.enter g args) W) (f : List UInt8 → Bool) (hg : ∀ (B : Nat) (x : Value) (xs : List UInt8) (W : World), Byt W B x xs → Calls Try.prog g #[x] W fun e W' => e = .returned (.bool (f xs)) ∧ Below W.heap.size W W')
    (B : Nat) (x : Value) (L : List (Value × List UInt8)) (w : World) (hx : BagR w B x L) (hB : B ≤ w.heap.size) :
    Calls Try.prog 72 #[x, .func (.func g) #[] #[]] w fun e w' => e = .returned (.bool (L.any (fun p => f p.2))) ∧ Below w.heap.size w w' := by
  have H := Lib.hid (index_bag g eg f hg B x L w hx hB)
  obtain ⟨A, c, rfl⟩ := hx.form
  clear hx hg eg
  go_enter Try.func72, Try.ntmps72
  go_wp2_with fail
  refine H.out.mono ?_
  rintro e w1 ⟨i, rfl, hi, hb⟩
  have HI := Lib.hid hi
  clear hi
  go_wp2_with fail
  go_ret
  exact ⟨by rw [← HI.out]; rfl, hb⟩
theorem payMulti1_any (B : Nat) (x : Value) (xs : List UInt8) (w : World) (hx : Byt w B x xs) :
    Calls Try.prog 73 #[x] w fun e w' => e = .returned (.bool (xs.length != 33)) ∧ Below w.heap.size w w' := by
  have hb : ((xs.length : Int) != 33) = (xs.length != 33) := by
    rw [Bool.eq_iff_iff]
    simp only [bne_iff_ne, ne_eq]
    omega
  have HB := Lib.hid hb
  obtain ⟨A, c, rfl⟩ := hx.form
  clear hb hx
  go_enter Try.func73, Try.ntmps73
  go_wp2_with fail
  go_ret
  exact ⟨by rw [← HB.out]; rfl, Below.refl _ _⟩
theorem contains_long (B : Nat) (x : Value) (L : List (Value × List UInt8)) (w : World) (hx : BagR w B x L) (hB : B ≤ w.heap.size) :
    Calls Try.prog 72 #[x, .func (.func 73) #[] #[]] w fun e w' => e = .returned (.bool (L.any (fun p => p.2.length != 33))) ∧ Below w.heap.size w w' :=
  contains_bag _ (enters_of Try.func73 (by kernel_rfl) rfl) (fun xs => xs.length != 33) payMulti1_any B x L w hx hB
end Go.Proofs.Ytadgaeokiolmmaa
