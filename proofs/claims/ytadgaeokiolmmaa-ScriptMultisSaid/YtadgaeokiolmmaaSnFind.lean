/-
  Lists of operations are read: is there one whose code is of a kind, are the codes these. Conditions: sizes within the reach.
-/
import Derived.Test.YtadgaeokiolmmaaSnParse
namespace Go.Proofs.Ytadgaeokiolmmaa
open Go.RowKit

/-- The slice value v reads as these operations, in a block below B. -/
def OpsR (w : World) (B : Nat) (v : Value) (L : List Piece) : Prop :=
  ∃ A c, v = .slice A L.length c ∧ L.length ≤ c ∧ c ≤ maxLen ∧
    (L ≠ [] → ∃ b o, A = some ⟨b, o, none⟩ ∧ b < B ∧ ∀ i p, L[i]? = some p → w.cell? ⟨b, o + i * 2, none⟩ = some (bv p.code) ∧ w.cell? ⟨b, o + i * 2 + 1, none⟩ = some p.at_ ∧ ∃ A' c', p.at_ = .slice A' p.data.length c')
theorem OpsR.form {w : World} {B : Nat} {v : Value} {L : List Piece} (h : OpsR w B v L) : ∃ A c, v = .slice A L.length c := by
  obtain ⟨A, c, hv, _⟩ := h
  exact ⟨A, c, hv⟩
theorem OpsR.cap {w : World} {B c : Nat} {A : Option Addr} {L : List Piece} (h : OpsR w B (.slice A L.length c) L) : L.length ≤ c ∧ c ≤ 9223372036854775807 := by
  obtain ⟨A', c', e, h1, h2, _⟩ := h
  injection e with e1 e2 e3
  subst e3
  unfold maxLen at h2
  exact ⟨h1, h2⟩
theorem OpsR.len {w : World} {B : Nat} {v : Value} {L : List Piece} (h : OpsR w B v L) : L.length ≤ 9223372036854775807 := by
  obtain ⟨A, c, rfl⟩ := h.form
  have := h.cap
  omega
theorem OpsR.below {w w' : World} {B : Nat} {v : Value} {L : List Piece} (h : OpsR w B v L) (hb : Below B w w') : OpsR w' B v L := by
  obtain ⟨A, c, hv, h1, h2, h3⟩ := h
  refine ⟨A, c, hv, h1, h2, fun hne => ?_⟩
  obtain ⟨b, o, e, hb', hc⟩ := h3 hne
  exact ⟨b, o, e, hb', fun i p hp => ⟨(hb.cell (p := ⟨b, _, none⟩) hb').trans (hc i p hp).1, (hb.cell (p := ⟨b, _, none⟩) hb').trans (hc i p hp).2.1, (hc i p hp).2.2⟩⟩
theorem OpsR.nil (w : World) (B : Nat) : OpsR w B (.slice none 0 0) [] := ⟨none, 0, rfl, Nat.le_refl _, by unfold maxLen; omega, fun h => absurd rfl h⟩
theorem OpsR.of_at {w : World} {base : Nat} {v : Value} {L : List Piece} (h : OpsAt w base v L) : OpsR w w.heap.size v L := by
  rcases h.1.2 with ⟨rfl, hn⟩ | ⟨g, cap, cur, rfl, hb, hg, hnc, hcm, hcs, ht⟩
  · obtain rfl : L = [] := List.eq_nil_of_length_eq_zero hn
    exact OpsR.nil _ _
  · refine ⟨some ⟨g, 0, none⟩, cap, rfl, hnc, hcm, fun hne => ⟨g, 0, rfl, (h.1.lt g rfl).2, fun i p hp => ?_⟩⟩
    have hi := (List.getElem?_eq_some_iff.1 hp).1
    obtain ⟨c0, c1⟩ := cellsOf_at hp
    have hr := h.1
    refine ⟨?_, ?_, OwnB.form (h.2.1 p (List.mem_of_getElem? hp))⟩
    · rw [Nat.zero_add]; exact (World.ownsRow.cellAt hr (i * 2) (by omega)).trans c0
    · rw [Nat.zero_add]; exact (World.ownsRow.cellAt hr (i * 2 + 1) (by omega)).trans c1

/-- Is there one among these, at the index that is answered? -/
def FoundO (w : World) (f : UInt8 → Bool) (L : List Piece) (e : Ending) (w' : World) : Prop := ∃ i : Int, e = .returned (.int .i64 i) ∧ decide (0 ≤ i) = L.any (fun p => f p.code) ∧ Below w.heap.size w w'
theorem anyO_take {f : UInt8 → Bool} {L : List Piece} {k : Nat} (h : k < L.length) : (L.take (k + 1)).any (fun p => f p.code) = ((L.take k).any (fun p => f p.code) || f L[k].code) := by
  rw [List.take_succ_eq_append_getElem h, List.any_append]
  simp

set_option maxRecDepth 100000 in
set_option maxHeartbeats 1600000 in
theorem index_op (g : FuncId) (eg : ∀ args W, (callFunc g args).run Try.prog W = .ok (.enter g args) W) (f : UInt8 → Bool) (hg : ∀ (c : UInt8) (u : Value) (W : World), Calls Try.prog g #[.agg #[.int .u8 (c.toNat : Int), u]] W fun e W' => e = .returned (.bool (f c)) ∧ Below W.heap.size W W')
    (B : Nat) (x : Value) (L : List Piece) (w : World) (hx : OpsR w B x L) (hB : B ≤ w.heap.size) :
    Calls Try.prog 82 #[x, .func (.func g) #[] #[]] w (FoundO w f L) := by
  have hlen := hx.len
  obtain ⟨A, c, rfl⟩ := hx.form
  have hcap := hx.cap
  have HX := Lib.hid hx
  have HG := Lib.hid hg
  clear hx hg
  go_enter Try.func82, Try.ntmps82
  go_wp2_with fail
  go_loopw [8] (fun s wr => ∃ k : Nat, k ≤ L.length ∧ s = .int .i64 (k : Int) ∧ Hid ((L.take k).any (fun p => f p.code) = false) ∧ Hid (Below w.heap.size w wr)) (fun s _ => L.length - (intOf s).toNat)
  case atStart => exact ⟨0, Nat.zero_le _, rfl, Lib.hid (by simp), Lib.hid (Below.refl _ _)⟩
  case round =>
    obtain ⟨k, hk, rfl, hno, hbel⟩ := hrel
    by_cases hlt : k < L.length
    · obtain ⟨A', c', e0, _, _, h4⟩ := HX.out
      obtain ⟨e1, e2, e3⟩ := Value.slice.inj e0
      subst e1 e3
      clear e2
      obtain ⟨b, o, rfl, hb, hc⟩ := h4 (by rintro rfl; simp at hlt)
      obtain ⟨hc0, hc1, _⟩ := hc k _ (List.getElem?_eq_getElem hlt)
      have hsn := anyO_take (f := f) hlt
      obtain ⟨⟨q, d, zs⟩, hq⟩ : ∃ q, q = L[k] := ⟨_, rfl⟩
      rw [← hq] at hc0 hc1 hsn
      dsimp only at hc0 hc1 hsn
      have hr0 : wr.cell? ⟨b, o + k * 2, none⟩ = some (.int .u8 (q.toNat : Int)) := (hbel.out.cell (p := ⟨b, _, none⟩) (by show b < _; omega)).trans hc0
      have hr1 : wr.cell? ⟨b, o + k * 2 + 1, none⟩ = some d := (hbel.out.cell (p := ⟨b, _, none⟩) (by show b < _; omega)).trans hc1
      have HSN := Lib.hid hsn
      clear hc h4 hq hsn e0 hc0 hc1
      have hd : decide (k < L.length) = true := by simpa using hlt
      have HT := Lib.hid (HG.out q d wr)
      by_cases hq0 : f q = true
      · rw [hq0] at HT HSN
        clear hq0
        go_wp2_with fail
        refine HT.out.mono ?_
        rintro e w1 ⟨rfl, hb1⟩
        go_wp2_with fail
        go_ret
        refine ⟨k, rfl, ?_, hbel.out.trans (hb1.mono hbel.out.size)⟩
        rw [decide_eq_true (by omega)]
        have h2 : (L.take (k + 1)).any (fun p => f p.code) = true := by rw [HSN.out]; simp
        symm
        rw [List.any_eq_true] at h2 ⊢
        obtain ⟨y, hy, hy2⟩ := h2
        exact ⟨y, List.mem_of_mem_take hy, hy2⟩
      · have hq1 : f q = false := by simpa using hq0
        rw [hq1] at HT HSN
        clear hq0 hq1
        go_wp2_with fail
        refine HT.out.mono ?_
        rintro e w1 ⟨rfl, hb1⟩
        go_wp2_with fail
        go_roundw
        case rel => exact ⟨k + 1, by omega, by go_num, Lib.hid (by rw [HSN.out, hno.out]; rfl), Lib.hid (hbel.out.trans (hb1.mono hbel.out.size))⟩
        case measure => simp [intOf]; omega
    · obtain rfl : k = L.length := by omega
      go_wp2_with fail
      go_ret
      refine ⟨-1, rfl, ?_, hbel.out⟩
      have := hno.out
      rw [List.take_length] at this
      rw [this]
      rfl

set_option maxHeartbeats 800000 in
theorem contains_op (g : FuncId) (eg : ∀ args W, (callFunc g args).run Try.prog W = .ok (.enter g args) W) (f : UInt8 → Bool) (hg : ∀ (c : UInt8) (u : Value) (W : World), Calls Try.prog g #[.agg #[.int .u8 (c.toNat : Int), u]] W fun e W' => e = .returned (.bool (f c)) ∧ Below W.heap.size W W')
    (B : Nat) (x : Value) (L : List Piece) (w : World) (hx : OpsR w B x L) (hB : B ≤ w.heap.size) :
    Calls Try.prog 48 #[x, .func (.func g) #[] #[]] w fun e w' => e = .returned (.bool (L.any (fun p => f p.code))) ∧ Below w.heap.size w w' := by
  have H := Lib.hid (index_op g eg f hg B x L w hx hB)
  obtain ⟨A, c, rfl⟩ := hx.form
  clear hx hg eg
  go_enter Try.func48, Try.ntmps48
  go_wp2_with fail
  refine H.out.mono ?_
  rintro e w1 ⟨i, rfl, hi, hb⟩
  have HI := Lib.hid hi
  clear hi
  go_wp2_with fail
  go_ret
  exact ⟨by rw [← HI.out]; rfl, hb⟩

set_option maxHeartbeats 400000 in
theorem pushes1_any (c : UInt8) (u : Value) (w : World) :
    Calls Try.prog 49 #[.agg #[.int .u8 (c.toNat : Int), u]] w fun e w' => e = .returned (.bool (decide (96 < c.toNat))) ∧ Below w.heap.size w w' := by
  have hb : decide ((96 : Int) < (c.toNat : Int)) = decide (96 < c.toNat) := by rw [Bool.eq_iff_iff]; simp only [decide_eq_true_eq]; omega
  have HB := Lib.hid hb
  clear hb
  go_enter Try.func49, Try.ntmps49
  go_wp2_with fail
  go_ret
  exact ⟨by rw [← HB.out]; rfl, (Below.refl _ _).alloc (Nat.le_refl _) _⟩
set_option maxHeartbeats 400000 in
theorem multi1_any (c : UInt8) (u : Value) (w : World) :
    Calls Try.prog 87 #[.agg #[.int .u8 (c.toNat : Int), u]] w fun e w' => e = .returned (.bool (c != 33)) ∧ Below w.heap.size w w' := by
  have hb : ((c.toNat : Int) != 33) = (c != 33) := by
    rw [Bool.eq_iff_iff]
    simp only [bne_iff_ne, ne_eq]
    exact not_congr ⟨fun h => u8_ext (by show c.toNat = 33; omega), fun h => by subst h; rfl⟩
  have HB := Lib.hid hb
  clear hb
  go_enter Try.func87, Try.ntmps87
  go_wp2_with fail
  go_ret
  exact ⟨by rw [← HB.out]; rfl, (Below.refl _ _).alloc (Nat.le_refl _) _⟩

theorem contains_above (B : Nat) (x : Value) (L : List Piece) (w : World) (hx : OpsR w B x L) (hB : B ≤ w.heap.size) :
    Calls Try.prog 48 #[x, .func (.func 49) #[] #[]] w fun e w' => e = .returned (.bool (L.any (fun p => decide (96 < p.code.toNat)))) ∧ Below w.heap.size w w' :=
  contains_op _ (enters_of Try.func49 (by kernel_rfl) rfl) (fun c => decide (96 < c.toNat)) pushes1_any B x L w hx hB
theorem contains_key (B : Nat) (x : Value) (L : List Piece) (w : World) (hx : OpsR w B x L) (hB : B ≤ w.heap.size) :
    Calls Try.prog 48 #[x, .func (.func 87) #[] #[]] w fun e w' => e = .returned (.bool (L.any (fun p => p.code != 33))) ∧ Below w.heap.size w w' :=
  contains_op _ (enters_of Try.func87 (by kernel_rfl) rfl) (fun c => c != 33) multi1_any B x L w hx hB

/-- Does a script push only? -/
def pushesB (xs : List UInt8) : Bool := match parseP xs with | none => false | some ops => !ops.any (fun p => decide (96 < p.1.toNat))
theorem any_pair (f : UInt8 → Bool) (L : List Piece) : (L.map Piece.pair).any (fun p => f p.1) = L.any (fun p => f p.code) := by rw [List.any_map]; rfl

set_option maxHeartbeats 800000 in
theorem pushes_any (B : Nat) (x : Value) (xs : List UInt8) (w : World) (hx : Byt w B x xs) (hl : xs.length ≤ 60000000) :
    Calls Try.prog 14 #[x] w fun e w' => e = .returned (.bool (pushesB xs)) ∧ Below w.heap.size w w' := by
  have HP := Lib.hid (parse_any B x xs w hx hl)
  obtain ⟨A, c, rfl⟩ := hx.form
  clear hx
  unfold Parsed at HP
  unfold pushesB
  cases hp : parseP xs with
  | none =>
    rw [hp] at HP
    dsimp only at HP
    clear hp
    go_enter Try.func14, Try.ntmps14
    go_wp2_with fail
    refine HP.out.mono ?_
    rintro e w1 ⟨rfl, hb⟩
    go_wp2_with fail
    go_ret
    exact ⟨rfl, hb⟩
  | some ops =>
    rw [hp] at HP
    dsimp only at HP ⊢
    clear hp
    obtain ⟨b, hb⟩ : ∃ b, b = ops.any (fun p => decide (96 < p.1.toNat)) := ⟨_, rfl⟩
    rw [← hb]
    have HB := Lib.hid hb
    clear hb
    go_enter Try.func14, Try.ntmps14
    go_wp2_with fail
    refine HP.out.mono ?_
    rintro e w1 ⟨A1, c1, L, rfl, hL, hops, hb1⟩
    have hll : L.length = ops.length := by rw [← hL, List.length_map]
    have hC := Lib.hid (contains_above w1.heap.size _ L w1 (by have := OpsR.of_at hops; exact this) (Nat.le_refl _))
    have hbL : L.any (fun p => decide (96 < p.code.toNat)) = b := by rw [HB.out, ← hL]; exact (any_pair (fun c => decide (96 < c.toNat)) L).symm
    rw [hbL] at hC
    clear hL hll hops hbL HB
    go_wp2_with fail
    refine hC.out.mono ?_
    rintro e w2 ⟨rfl, hb2⟩
    go_wp2_with fail
    go_ret
    exact ⟨rfl, hb1.trans (hb2.mono hb1.size)⟩
end Go.Proofs.Ytadgaeokiolmmaa
