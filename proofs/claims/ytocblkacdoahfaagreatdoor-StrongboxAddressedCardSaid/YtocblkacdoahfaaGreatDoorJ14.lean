/-
  Texts joined: SnWit, SnKind, SnBag. Conditions: those of each.
-/
import Derived.Test.YtocblkacdoahfaaGreatDoorJ13
/-
  PayWitness, of the program and of the reference. Conditions: sizes within the reach.
-/
namespace Go.Proofs.YtocblkacdoahfaaGreatDoor.Sn
open Go.RowKit

/-- The code that pushes a number from 0 to 16. -/
def vcode (v : Int) : UInt8 := if v = 0 then 0 else UInt8.ofNat (80 + v.toNat)
def witForm (v : Int) (ps : List UInt8) : List UInt8 := [vcode v, b8 (ps.length : Int)] ++ ps
theorem push_small (v : Int) (h0 : 0 ≤ v) (h1 : v ≤ 16) : pushB (numB v) = [vcode v] := by
  by_cases hz : v = 0
  · subst hz
    rw [show numB 0 = [] from numB_neg0]
    rfl
  · obtain ⟨m, rfl⟩ := Int.eq_ofNat_of_zero_le h0
    have hm : 0 < m := by omega
    have hx : (UInt8.ofNat (m % 256)).toNat = m := by rw [u8_of]; omega
    have hn : numB (m : Int) = [UInt8.ofNat (m % 256)] := by
      rw [numB_nat, bytesN_pos hm, Nat.div_eq_of_lt (by omega), bytesN_zero]
      exact topped_lo (fr := []) (by rw [hx]; omega)
    rw [hn]
    unfold pushB
    rw [alone_one, if_neg (by intro e; have := congrArg UInt8.toNat e; rw [hx] at this; have h129 : (129 : UInt8).toNat = 129 := rfl; omega), if_pos (by omega), hx]
    unfold vcode
    rw [if_neg hz]
    rfl
theorem push_prog (ps : List UInt8) (h2 : 2 ≤ ps.length) (h40 : ps.length ≤ 40) : pushB ps = b8 (ps.length : Int) :: ps := by
  match ps, h2 with
  | a :: b :: t, _ =>
    have : aloneB (a :: b :: t) = none := rfl
    unfold pushB headB
    rw [this, if_pos (by omega)]
    rfl
theorem small_vcode (v : Int) (h0 : 0 ≤ v) (h1 : v ≤ 16) : smallB (vcode v) = v := by
  unfold vcode
  by_cases hz : v = 0
  · subst hz; rfl
  · rw [if_neg hz]
    have hx : (UInt8.ofNat (80 + v.toNat)).toNat = 80 + v.toNat := by rw [UInt8.toNat_ofNat', Nat.mod_eq_of_lt (by omega)]
    unfold smallB
    rw [if_neg (by intro e; have := congrArg UInt8.toNat e; rw [hx] at this; have h00 : (0 : UInt8).toNat = 0 := rfl; omega), if_pos (by omega), hx]
    omega

set_option maxRecDepth 100000 in
set_option maxHeartbeats 800000 in
theorem pushNumber_any (v : Int) (w : World) (h0 : -9223372036854775808 ≤ v) (h1 : v ≤ 9223372036854775807) : Calls Tryz.prog 25 #[.int .i64 v] w (Fresh w (pushB (numB v))) := by
  have h8 := numB_eight v h0 h1
  obtain ⟨N, hN⟩ : ∃ N, N = numB v := ⟨_, rfl⟩
  have HN := Lib.hid (fun W => number_any v W h0 h1)
  rw [← hN] at HN h8 ⊢
  clear hN
  go_enter Tryz.func25, Tryz.ntmps25
  go_wp2_with fail
  refine (HN.out _).mono ?_
  intro e w1 hfr
  obtain ⟨u1, rfl, hown1, hb1⟩ := fresh_v hfr
  have HY := Lib.hid (Byt.of_own hown1)
  have HB1 := Lib.hid hb1
  clear hfr hown1 hb1
  go_wp2_with fail
  refine (push_any _ _ N w1 HY.out (Nat.le_refl _) (by omega)).mono ?_
  intro e w2 hfr
  obtain ⟨u2, rfl, hown2, hb2⟩ := fresh_v hfr
  have HO2 := Lib.hid (own_base hown2 HB1.out.size)
  have HB2 := Lib.hid (HB1.out.trans (hb2.mono HB1.out.size))
  clear hfr hown2 hb2
  go_wp2_with fail
  go_ret
  exact fresh_own HO2.out HB2.out

/-- What PayWitness answers. -/
def PayV (w : World) (v : Int) (ps : List UInt8) (e : Ending) (w' : World) : Prop :=
  if v < 0 ∨ 16 < v then e = .returned (.tuple #[.slice none 0 0, .int .i64 1]) ∧ Below w.heap.size w w'
  else if ps.length < 2 ∨ 40 < ps.length then e = .returned (.tuple #[.slice none 0 0, .int .i64 2]) ∧ Below w.heap.size w w'
  else ∃ u, e = .returned (.tuple #[u, .int .i64 0]) ∧ OwnB w' w.heap.size u (witForm v ps) ∧ Below w.heap.size w w'

theorem payV_big {w : World} {v : Int} {ps : List UInt8} {e : Ending} {w' : World} (hv : v < 0 ∨ 16 < v) (h : e = .returned (.tuple #[.slice none 0 0, .int .i64 1]) ∧ Below w.heap.size w w') : PayV w v ps e w' := by
  unfold PayV
  rw [if_pos hv]
  exact h
theorem payV_long {w : World} {v : Int} {ps : List UInt8} {e : Ending} {w' : World} (hv : ¬(v < 0 ∨ 16 < v)) (hp : ps.length < 2 ∨ 40 < ps.length) (h : e = .returned (.tuple #[.slice none 0 0, .int .i64 2]) ∧ Below w.heap.size w w') : PayV w v ps e w' := by
  unfold PayV
  rw [if_neg hv, if_pos hp]
  exact h
theorem payV_ok {w : World} {v : Int} {ps : List UInt8} {e : Ending} {w' : World} (hv : ¬(v < 0 ∨ 16 < v)) (hp : ¬(ps.length < 2 ∨ 40 < ps.length)) (h : ∃ u, e = .returned (.tuple #[u, .int .i64 0]) ∧ OwnB w' w.heap.size u (witForm v ps) ∧ Below w.heap.size w w') : PayV w v ps e w' := by
  unfold PayV
  rw [if_neg hv, if_neg hp]
  exact h

set_option maxRecDepth 100000 in
set_option maxHeartbeats 3200000 in
theorem payWitness_any (v : Int) (B : Nat) (x : Value) (ps : List UInt8) (w : World) (h0 : -9223372036854775808 ≤ v) (h1 : v ≤ 9223372036854775807) (hx : Byt w B x ps) (hB : B ≤ w.heap.size) (hl : ps.length ≤ 47000000) :
    Calls Tryz.prog 10 #[.int .i64 v, x] w (PayV w v ps) := by
  have HX := Lib.hid hx
  obtain ⟨A, c, rfl⟩ := hx.form
  clear hx
  by_cases hv : v < 0 ∨ 16 < v
  · refine Calls.mono (R := fun e w' => e = .returned (.tuple #[.slice none 0 0, .int .i64 1]) ∧ Below w.heap.size w w') ?_ (fun e w' h => payV_big hv h)
    by_cases hn : v < 0
    · clear hv
      go_enter Tryz.func10, Tryz.ntmps10
      go_wp2_with fail
      go_ret2
      exact ⟨rfl, Below.refl _ _⟩
    · have d1 : decide (v < 0) = false := decide_eq_false hn
      have hh : (16 : Int) < v := by omega
      clear hv
      go_enter Tryz.func10, Tryz.ntmps10
      go_wp2_with fail
      go_ret2
      exact ⟨rfl, Below.refl _ _⟩
  · have d1 : decide (v < 0) = false := decide_eq_false (by omega)
    have d2 : decide ((16 : Int) < v) = false := decide_eq_false (by omega)
    by_cases hp : ps.length < 2 ∨ 40 < ps.length
    · refine Calls.mono (R := fun e w' => e = .returned (.tuple #[.slice none 0 0, .int .i64 2]) ∧ Below w.heap.size w w') ?_ (fun e w' h => payV_long hv hp h)
      by_cases hn : ps.length < 2
      · have d3 : decide ((ps.length : Int) < 2) = true := decide_eq_true (by omega)
        clear hv hp
        go_enter Tryz.func10, Tryz.ntmps10
        go_wp2_with fail
        go_ret2
        exact ⟨rfl, Below.refl _ _⟩
      · have d3 : decide ((ps.length : Int) < 2) = false := decide_eq_false (by omega)
        have d4 : decide ((40 : Int) < (ps.length : Int)) = true := decide_eq_true (by omega)
        clear hv hp
        go_enter Tryz.func10, Tryz.ntmps10
        go_wp2_with fail
        go_ret2
        exact ⟨rfl, Below.refl _ _⟩
    · refine Calls.mono (R := fun e w' => ∃ u, e = .returned (.tuple #[u, .int .i64 0]) ∧ OwnB w' w.heap.size u (witForm v ps) ∧ Below w.heap.size w w') ?_ (fun e w' h => payV_ok hv hp h)
      have d3 : decide ((ps.length : Int) < 2) = false := decide_eq_false (by omega)
      have d4 : decide ((40 : Int) < (ps.length : Int)) = false := decide_eq_false (by omega)
      have hpn := push_small v (by omega) (by omega)
      have hpp := push_prog ps (by omega) (by omega)
      have HN := Lib.hid (fun W => pushNumber_any v W h0 h1)
      rw [hpn] at HN
      have HPP := Lib.hid hpp
      have hl40 : ps.length ≤ 40 := by omega
      clear hv hp hpn hpp
      go_enter Tryz.func10, Tryz.ntmps10
      go_wp2_with fail
      refine (HN.out _).mono ?_
      intro e w1 hfr
      obtain ⟨u1, rfl, hown1, hb1⟩ := fresh_v hfr
      obtain ⟨A1, c1, rfl⟩ := hown1.form
      have HY1 := Lib.hid (Byt.of_own hown1)
      have HB1 := Lib.hid hb1
      have HX1 := Lib.hid (HX.out.below (hb1.mono hB))
      clear hfr hown1 hb1
      go_wp2_with fail
      refine (push_any B _ ps w1 HX1.out (Nat.le_trans hB HB1.out.size) hl).mono ?_
      rw [HPP.out]
      intro e w2 hfr
      obtain ⟨u2, rfl, hown2, hb2⟩ := fresh_v hfr
      obtain ⟨A2, c2, rfl⟩ := hown2.form
      have y1 := (HY1.out.below hb2).more hb2.size
      have y2 := Byt.of_own hown2
      have bag := BagR.made w2 23 [.slice A1 [vcode v].length c1, .slice A2 (b8 (ps.length : Int) :: ps).length c2] [(.slice A1 [vcode v].length c1, [vcode v]), (.slice A2 (b8 (ps.length : Int) :: ps).length c2, b8 (ps.length : Int) :: ps)] rfl (by unfold maxLen; simp)
        (by intro p hp; simp only [List.mem_cons, List.not_mem_nil, or_false] at hp; rcases hp with rfl | rfl; exact y1; exact y2)
      have BAG := Lib.hid bag
      have HB2 := Lib.hid (HB1.out.trans (hb2.mono HB1.out.size))
      have hl1 : [vcode v].length = 1 := rfl
      have hl2 : (b8 (ps.length : Int) :: ps).length = ps.length + 1 := rfl
      rw [hl1, hl2] at BAG
      rw [hl2]
      clear y1 y2 bag hl1 hl2 hfr hown2 hb2
      go_wp2_with fail
      refine (concat_any _ _ _ _ BAG.out (by simp) (by unfold total; simp; omega)).mono ?_
      intro e w3 hfr
      obtain ⟨u3, rfl, hown3, hb3⟩ := fresh_v hfr
      have e3 : joined [((.slice A1 1 c1 : Value), [vcode v]), (.slice A2 (ps.length + 1) c2, b8 (ps.length : Int) :: ps)] = witForm v ps := by
        unfold joined witForm
        simp
      rw [e3] at hown3
      have HO3 := Lib.hid (own_base hown3 (by have := HB2.out.size; simp; omega : w.heap.size ≤ _))
      have HB3 := Lib.hid ((HB2.out.alloc HB2.out.size (.cells #[.slice A1 1 c1, .slice A2 (ps.length + 1) c2] 23)).trans (hb3.mono (by have := HB2.out.size; simp; omega)))
      clear hfr hown3 hb3 e3
      go_wp2_with fail
      go_ret2
      exact ⟨_, rfl, HO3.out, HB3.out⟩

end Go.Proofs.YtocblkacdoahfaaGreatDoor.Sn

/-
  script.Kind at the two forms of a digest of twenty bytes. Conditions: sizes within the reach.
-/
namespace Go.Proofs.YtocblkacdoahfaaGreatDoor.Sn
open Go.RowKit

theorem parse_code {c : UInt8} (h : 79 ≤ c.toNat) (xs : List UInt8) : parseP (c :: xs) = (parseP xs).map ((c, []) :: ·) := by
  rw [parseP_ok (by rw [opR_none (.inr h)]), opR_none (.inr h)]
theorem parse_digest {hs : List UInt8} (h : hs.length = 20) (xs : List UInt8) : parseP (20 :: (hs ++ xs)) = (parseP xs).map ((20, hs) :: ·) := by
  have q : opR 20 (hs ++ xs) = (hs, 0, xs) := by
    unfold opR sizeD
    rw [if_pos (by decide)]
    dsimp only
    have := rawR_app hs xs
    rw [h] at this
    exact this
  rw [parseP_ok (by rw [q]), q]
theorem parse_key {hs : List UInt8} (h : hs.length = 20) : parseP (keyForm hs) = some [(118, []), (169, []), (20, hs), (136, []), (172, [])] := by
  have e : keyForm hs = 118 :: 169 :: 20 :: (hs ++ [136, 172]) := rfl
  rw [e, parse_code (by decide), parse_code (by decide), parse_digest h, parse_code (by decide), parse_code (by decide), parseP_nil]
  rfl
theorem parse_script {hs : List UInt8} (h : hs.length = 20) : parseP (scriptForm hs) = some [(169, []), (20, hs), (135, [])] := by
  have e : scriptForm hs = 169 :: 20 :: (hs ++ [135]) := rfl
  rw [e, parse_code (by decide), parse_digest h, parse_code (by decide), parseP_nil]
  rfl

theorem ops_cell {w : World} {B n c : Nat} {A : Option Addr} {L : List Piece} (h : OpsR w B (.slice A n c) L) (hne : L ≠ []) : ∃ b o, A = some ⟨b, o, none⟩ ∧ b < B ∧ L.length = n ∧ L.length ≤ c ∧ c ≤ 9223372036854775807 ∧ ∀ i p, L[i]? = some p → w.cell? ⟨b, o + i * 2 + 1, none⟩ = some p.at_ := by
  obtain ⟨A', c', e, h1, h2, h3⟩ := h
  obtain ⟨e1, e2, e3⟩ := Value.slice.inj e
  subst e1 e3
  obtain ⟨b, o, e', hb, hc⟩ := h3 hne
  exact ⟨b, o, e', hb, e2.symm, h1, h2, fun i p hp => (hc i p hp).2.1⟩

/-- Parse of five operations, of three. -/
theorem parse_list (B : Nat) (x : Value) (zs : List UInt8) (ops : List (UInt8 × List UInt8)) (h : parseP zs = some ops) (w : World) (hx : Byt w B x zs) (hl : zs.length ≤ 60000000) :
    Calls Tryz.prog 35 #[x] w fun e w' => ∃ A c L, e = .returned (.tuple #[.slice A ops.length c, .int .i64 0]) ∧ L.map Piece.pair = ops ∧ OpsAt w' w.heap.size (.slice A ops.length c) L ∧ Below w.heap.size w w' := by
  refine (parse_any B x zs w hx hl).mono fun e w' hp => ?_
  unfold Parsed at hp
  rw [h] at hp
  exact hp
theorem codes_of {L : List Piece} {ops : List (UInt8 × List UInt8)} (h : L.map Piece.pair = ops) : L.map Piece.code = ops.map (·.1) := by
  rw [← h, List.map_map]
  rfl
theorem piece_at {L : List Piece} {ops : List (UInt8 × List UInt8)} (h : L.map Piece.pair = ops) {i : Nat} {c : UInt8} {ds : List UInt8} (hi : ops[i]? = some (c, ds)) : ∃ p, L[i]? = some p ∧ p.data = ds := by
  rw [← h, List.getElem?_map] at hi
  cases hp : L[i]? with
  | none => rw [hp] at hi; cases hi
  | some p =>
    rw [hp] at hi
    refine ⟨p, rfl, ?_⟩
    have : Piece.pair p = (c, ds) := Option.some.inj hi
    unfold Piece.pair at this
    exact (Prod.mk.inj this).2

/-- A kind, and one slice of bytes. -/
def KindV (w : World) (k : Int) (hs : List UInt8) (e : Ending) (w' : World) : Prop :=
  ∃ v u, e = .returned (.tuple #[.int .i64 k, v]) ∧ BagR w' w'.heap.size v [(u, hs)] ∧ Below w.heap.size w w'

set_option maxRecDepth 100000 in
set_option maxHeartbeats 6400000 in
theorem kind_key (B : Nat) (x : Value) (hs : List UInt8) (h : hs.length = 20) (w : World) (hx : Byt w B x (keyForm hs)) :
    Calls Tryz.prog 11 #[x] w (KindV w 1 hs) := by
  have hlen : (keyForm hs).length = 25 := by unfold keyForm; simp [h]
  have hx' := hx
  rw [show keyForm hs = 118 :: 169 :: 20 :: (hs ++ [136, 172]) from rfl] at hx'
  have HN := Lib.hid (prog_no B x 118 169 (20 :: (hs ++ [136, 172])) w hx' (by simp [h]) (by simp) (by simp [h]))
  have HP := Lib.hid (parse_list B x (keyForm hs) _ (parse_key h) w hx (by omega))
  obtain ⟨A, c, rfl⟩ := hx.form
  rw [hlen] at HN HP ⊢
  have HH := Lib.hid h
  clear hx hx' hlen h
  go_enter Tryz.func11, Tryz.ntmps11
  go_wp2_with fail
  refine HN.out.mono ?_
  rintro e w1 ⟨rfl, rfl⟩
  go_wp2_with fail
  refine HP.out.mono ?_
  rintro e w1 ⟨Av, cv, L, rfl, hL, hops, hb1⟩
  have hro := OpsR.of_at hops
  obtain ⟨p2, hp2, hd2⟩ := piece_at hL (i := 2) rfl
  have ho2 := hops.2.1 p2 (List.mem_of_getElem? hp2)
  rw [hd2] at ho2
  have hcod := codes_of hL
  obtain ⟨gb, go_, rfl, hgb, _, hcv1, hcv2, hcl⟩ := ops_cell hro (by rintro rfl; cases hp2)
  have hc2 := hcl 2 p2 hp2
  obtain ⟨pa, hpa⟩ : ∃ pa, pa = p2.at_ := ⟨_, rfl⟩
  rw [← hpa] at hc2 ho2
  obtain ⟨Ap, cp, rfl⟩ := own_form ho2
  have hm := Byt.made w1 5 [.int .u8 118, .int .u8 169, .int .u8 20, .int .u8 136, .int .u8 172] [118, 169, 20, 136, 172] rfl (by unfold maxLen; simp)
  have hbm : Below w1.heap.size w1 (w1.alloc (.cells #[.int .u8 118, .int .u8 169, .int .u8 20, .int .u8 136, .int .u8 172] 5)) := (Below.refl _ w1).alloc (Nat.le_refl _) _
  have hco := coded_any w1.heap.size (w1.heap.size + 1) _ _ L [118, 169, 20, 136, 172] _ (hro.below hbm) hm (by simp) (by simp)
  rw [hcod, show List.map (fun x : UInt8 × List UInt8 => x.1) [(118, []), (169, []), (20, hs), (136, []), (172, [])] = [118, 169, 20, 136, 172] from rfl, decide_eq_true rfl] at hco
  have HC := Lib.hid hco
  have HO := Lib.hid (Byt.of_own ho2)
  have HB1 := Lib.hid hb1
  have HB2 := Lib.hid hbm
  have HC2 := Lib.hid hc2
  have HGB := Lib.hid hgb
  have hlp : ([(118, []), (169, []), (20, hs), (136, []), (172, [])] : List (UInt8 × List UInt8)).length = 5 := rfl
  rw [hlp] at HC ⊢
  clear hlp hco hcod hm hbm hro hops ho2 hL hp2 hd2 hpa hcl hb1 hgb hc2 HN HP
  go_wp2_with fail
  refine HC.out.mono ?_
  rintro e w2 ⟨rfl, hb2⟩
  have hcell : w2.cell? ⟨gb, go_ + 4 + 1, none⟩ = some (.slice Ap hs.length cp) := (hb2.cell (p := ⟨gb, _, none⟩) (by have := HGB.out; show gb < _; simp; omega)).trans ((HB2.out.cell (p := ⟨gb, _, none⟩) HGB.out).trans HC2.out)
  have hcell5 : w2.cell? ⟨gb, go_ + 5, none⟩ = some (.slice Ap hs.length cp) := hcell
  have HO2 := Lib.hid (((HO.out.below HB2.out).below (hb2.mono (by simp))).more (by have := hb2.size; simp at this; omega : _ ≤ w2.heap.size))
  have HB3 := Lib.hid ((HB1.out.trans (HB2.out.mono HB1.out.size)).trans (hb2.mono (by have := HB1.out.size; simp; omega)))
  clear hb2 HC HC2
  go_wp2_with fail
  go_region
  go_wp2_with fail
  go_ret2
  have bag := BagR.made w2 23 [.slice Ap hs.length cp] [(.slice Ap hs.length cp, hs)] rfl (by unfold maxLen; simp) (by intro p hp; simp only [List.mem_cons, List.not_mem_nil, or_false] at hp; subst hp; exact HO2.out)
  have dr : ∀ B (W : World), Below B W W.drew := fun _ _ => ⟨rfl, rfl, rfl, Nat.le_refl _, fun _ _ => rfl⟩
  exact ⟨_, _, rfl, (bag.below (dr _ _)).more (by simp), (HB3.out.alloc HB3.out.size (.cells #[.slice Ap hs.length cp] 23)).trans (dr _ _)⟩
theorem byt_below {B : Nat} (w : World) (o : Obj) (h : B ≤ w.heap.size) : Below B w (w.alloc o) := (Below.refl _ w).alloc h o

set_option maxRecDepth 100000 in
set_option maxHeartbeats 6400000 in
theorem kind_script (B : Nat) (x : Value) (hs : List UInt8) (h : hs.length = 20) (w : World) (hx : Byt w B x (scriptForm hs)) :
    Calls Tryz.prog 11 #[x] w (KindV w 2 hs) := by
  have hlen : (scriptForm hs).length = 23 := by unfold scriptForm; simp [h]
  have hx' := hx
  rw [show scriptForm hs = 169 :: 20 :: (hs ++ [135]) from rfl] at hx'
  have HN := Lib.hid (prog_no B x 169 20 (hs ++ [135]) w hx' (by simp [h]) (by simp [h]) (by simp [h]))
  have HP := Lib.hid (parse_list B x (scriptForm hs) _ (parse_script h) w hx (by omega))
  obtain ⟨A, c, rfl⟩ := hx.form
  rw [hlen] at HN HP ⊢
  have HH := Lib.hid h
  clear hx hx' hlen h
  go_enter Tryz.func11, Tryz.ntmps11
  go_wp2_with fail
  refine HN.out.mono ?_
  rintro e w1 ⟨rfl, rfl⟩
  go_wp2_with fail
  refine HP.out.mono ?_
  rintro e w1 ⟨Av, cv, L, rfl, hL, hops, hb1⟩
  have hro := OpsR.of_at hops
  obtain ⟨p2, hp2, hd2⟩ := piece_at hL (i := 1) rfl
  have ho2 := hops.2.1 p2 (List.mem_of_getElem? hp2)
  rw [hd2] at ho2
  have hcod := codes_of hL
  obtain ⟨gb, go_, rfl, hgb, _, hcv1, hcv2, hcl⟩ := ops_cell hro (by rintro rfl; cases hp2)
  have hc2 := hcl 1 p2 hp2
  obtain ⟨pa, hpa⟩ : ∃ pa, pa = p2.at_ := ⟨_, rfl⟩
  rw [← hpa] at hc2 ho2
  obtain ⟨Ap, cp, rfl⟩ := own_form ho2
  have hm := Byt.made w1 5 [.int .u8 118, .int .u8 169, .int .u8 20, .int .u8 136, .int .u8 172] [118, 169, 20, 136, 172] rfl (by unfold maxLen; simp)
  have hbm : Below w1.heap.size w1 (w1.alloc (.cells #[.int .u8 118, .int .u8 169, .int .u8 20, .int .u8 136, .int .u8 172] 5)) := (Below.refl _ w1).alloc (Nat.le_refl _) _
  have hck := coded_any w1.heap.size (w1.heap.size + 1) _ _ L [118, 169, 20, 136, 172] _ (hro.below hbm) hm (by simp) (by simp)
  rw [hcod, show List.map (fun x : UInt8 × List UInt8 => x.1) [(169, []), (20, hs), (135, [])] = [169, 20, 135] from rfl, decide_eq_false (by decide)] at hck
  have HK := Lib.hid hck
  have hco := fun (w9 : World) (h9 : Below w1.heap.size w1 w9) => coded_any w1.heap.size (w9.heap.size + 1) _ _ L [169, 20, 135] _ ((hro.below h9).below (byt_below w9 (.cells #[.int .u8 169, .int .u8 20, .int .u8 135] 5) h9.size)) (Byt.made w9 5 [.int .u8 169, .int .u8 20, .int .u8 135] [169, 20, 135] rfl (by unfold maxLen; simp)) (by have := h9.size; simp; omega) (by simp)
  rw [hcod, show List.map (fun x : UInt8 × List UInt8 => x.1) [(169, []), (20, hs), (135, [])] = [169, 20, 135] from rfl, decide_eq_true rfl] at hco
  have HC := Lib.hid hco
  have HO := Lib.hid (Byt.of_own ho2)
  have HB1 := Lib.hid hb1
  have HB2 := Lib.hid hbm
  have HC2 := Lib.hid hc2
  have HGB := Lib.hid hgb
  have hlp : ([(169, []), (20, hs), (135, [])] : List (UInt8 × List UInt8)).length = 3 := rfl
  rw [hlp] at HC HK ⊢
  clear hlp hco hck hcod hm hbm hro hops ho2 hL hp2 hd2 hpa hcl hb1 hgb hc2 HN HP
  go_wp2_with fail
  refine HK.out.mono ?_
  rintro e w9 ⟨rfl, hb9⟩
  have HB9 := Lib.hid (HB2.out.trans (hb9.mono (by simp)))
  clear hb9
  go_wp2_with fail
  refine (HC.out w9 HB9.out).mono ?_
  rintro e w2 ⟨rfl, hb2⟩
  have hb92 : Below w1.heap.size w1 w2 := (HB9.out.alloc HB9.out.size (.cells #[.int .u8 169, .int .u8 20, .int .u8 135] 5)).trans (hb2.mono (by have := HB9.out.size; simp; omega))
  have hcell : w2.cell? ⟨gb, go_ + 2 + 1, none⟩ = some (.slice Ap hs.length cp) := (hb92.cell (p := ⟨gb, _, none⟩) HGB.out).trans HC2.out
  have hcell5 : w2.cell? ⟨gb, go_ + 3, none⟩ = some (.slice Ap hs.length cp) := hcell
  have HO2 := Lib.hid ((HO.out.below hb92).more hb92.size)
  have HB3 := Lib.hid (HB1.out.trans (hb92.mono HB1.out.size))
  clear hb92
  clear hb2 HC HK HC2
  go_wp2_with fail
  go_region
  go_wp2_with fail
  go_ret2
  have bag := BagR.made w2 23 [.slice Ap hs.length cp] [(.slice Ap hs.length cp, hs)] rfl (by unfold maxLen; simp) (by intro p hp; simp only [List.mem_cons, List.not_mem_nil, or_false] at hp; subst hp; exact HO2.out)
  have dr : ∀ B (W : World), Below B W W.drew := fun _ _ => ⟨rfl, rfl, rfl, Nat.le_refl _, fun _ _ => rfl⟩
  exact ⟨_, _, rfl, (bag.below (dr _ _)).more (by simp), (HB3.out.alloc HB3.out.size (.cells #[.slice Ap hs.length cp] 23)).trans (dr _ _)⟩
end Go.Proofs.YtocblkacdoahfaaGreatDoor.Sn

/-
  Slices of slices of bytes: rows of the call's own, append of one, is there one of a kind. Conditions: sizes within the reach.
-/
namespace Go.Proofs.YtocblkacdoahfaaGreatDoor.Sn
open Go.RowKit

/-- A row of the call's own, each one's bytes in a block of the call's own. -/
def BagAt (w : World) (base : Nat) (v : Value) (L : List (Value × List UInt8)) : Prop :=
  w.ownsRow base 23 1 v L.length (L.map (·.1)) ∧ ∀ p ∈ L, OwnB w base p.1 p.2
theorem BagAt.nil (w : World) (base : Nat) : BagAt w base (.slice none 0 0) [] := ⟨World.ownsRow_nil _ _ _ _, fun _ h => by cases h⟩
theorem BagAt.form {w : World} {base : Nat} {v : Value} {L : List (Value × List UInt8)} (h : BagAt w base v L) : ∃ A c, v = .slice A L.length c := own_form h.1
theorem BagAt.base {w : World} {b b' : Nat} {v : Value} {L : List (Value × List UInt8)} (h : BagAt w b v L) (hb : b' ≤ b) : BagAt w b' v L := ⟨own_base h.1 hb, fun p hp => own_base (h.2 p hp) hb⟩
theorem BagAt.turns {S : Nat → Prop} {w w' : World} {base : Nat} {v : Value} {L : List (Value × List UInt8)} (h : BagAt w base v L) (ht : Turns S w w') (hv : ∀ k, v.ownBlock = some k → ¬ S k) (hL : ∀ p ∈ L, ∀ k, p.1.ownBlock = some k → ¬ S k) : BagAt w' base v L :=
  ⟨own_turns h.1 ht hv, fun p hp => own_turns (h.2 p hp) ht (hL p hp)⟩
theorem BagAt.below {w w' : World} {base : Nat} {v : Value} {L : List (Value × List UInt8)} (h : BagAt w base v L) (hb : Below w.heap.size w w') : BagAt w' base v L :=
  h.turns (Turns.of_below (S := fun _ => False) hb) (fun _ _ h => h) (fun _ _ _ _ h => h)
theorem BagAt.toR {w : World} {base : Nat} {v : Value} {L : List (Value × List UInt8)} (h : BagAt w base v L) : BagR w w.heap.size v L := by
  refine ⟨?_, fun p hp => Byt.of_own (h.2 p hp)⟩
  rcases h.1.2 with ⟨rfl, hn⟩ | ⟨g, cap, cur, rfl, hb, hg, hnc, hcm, hcs, ht⟩
  · obtain rfl : L = [] := List.eq_nil_of_length_eq_zero hn
    exact ⟨none, 0, rfl, Nat.le_refl _, by unfold maxLen; omega, fun h => absurd rfl h⟩
  · refine ⟨some ⟨g, 0, none⟩, cap, rfl, hnc, hcm, fun hne => ⟨g, 0, rfl, (h.1.lt g rfl).2, fun i p hp => ?_⟩⟩
    have hi := (List.getElem?_eq_some_iff.1 hp).1
    rw [Nat.zero_add]
    refine (World.ownsRow.cellAt h.1 i (by omega)).trans ?_
    rw [List.getElem?_map, hp]
    rfl
theorem BagAt.snoc {w w' : World} {base n : Nat} {v v' : Value} {L : List (Value × List UInt8)} {p : Value × List UInt8} (h : BagAt w base v L) (hd : OwnB w base p.1 p.2)
    (hown : w'.ownsRow base 23 1 v' n (L.map (·.1) ++ [p.1])) (he : n = L.length + 1) (hg : w.grownBy w' v.ownBlock) : BagAt w' base v' (L ++ [p]) := by
  have ht : Turns (fun k => v.ownBlock = some k) w w' := (Turns.refl _ w).grown hg (fun k hk _ => hk)
  subst he
  refine ⟨by rw [List.map_append, List.length_append]; exact hown, fun q hq => ?_⟩
  rcases List.mem_append.1 hq with hq | hq
  · exact own_turns (h.2 q hq) ht (fun k hk hv => own_types h.1 (h.2 q hq) (by decide) hv hk)
  · obtain rfl : q = p := by simpa using hq
    exact own_turns hd ht (fun k hk hv => own_types h.1 hd (by decide) hv hk)

theorem info_bag : (Tryz.prog.info? 23).map (fun i => (i.zero, i.size, i.bytes)) = some (some (.slice none 0 0), 1, 24) := by kernel_rfl
theorem slice_bag : Tryz.prog.underlying 22 = some (.slice 23) := Tryz.underlying22

/-- append of one slice of bytes. -/
theorem wpList_append_bag {w : World} {ops : Array Oper} {rest : List Oper} {o : Oper} {a : Act} {Q : Exit → Act → World → Prop} (hgd : o.guard = none) (s x : Operand)
    (ho : o.op = .call { callee := .builtin .append, args := #[s, x], argTypes := #[22, 22] })
    (base : Nat) (v : Value) (n : Nat) (xs : List Value) (hs : a.eval s = v) (hown : w.ownsRow base 23 1 v n xs)
    (g : Nat) (u0 : Value) (hx : a.eval x = .slice (some ⟨g, 0, none⟩) 1 1) (h0 : w.cell? ⟨g, 0, none⟩ = some u0) (k0 : u0.oneCell' = true)
    (hb : (n + 1) * 24 ≤ 140737488355328) (hbase : base ≤ w.heap.size)
    (h : ∀ v' w', w'.ownsRow base 23 1 v' (n + 1) (xs ++ [u0]) → w.grownBy w' v.ownBlock → wpList Tryz.prog ops Q rest (a.put o.dst v') w') :
    wpList Tryz.prog ops Q (o :: rest) a w := by
  obtain ⟨i, hi, hz, hsz, hby⟩ := info_parts info_bag
  refine wpList_plain hgd fun K hK => ?_
  obtain ⟨v', w', hrun, h2, h3, _, _⟩ := run_append_own_at (P := Tryz.prog) w base 22 o.type 23 i _ 1 24 slice_bag hi hz hsz hby rfl (by decide) v n xs hown ⟨g, 0, none⟩ 1 1 [u0] rfl
    (by
      intro j u hu
      match j, hu with
      | 0, hu => exact Option.some.inj hu ▸ h0)
    (by intro u hu; simp at hu; rcases hu with rfl; exact k0) (by unfold maxLen; omega) hb hbase
  unfold Oper.wp execOp
  simp only [ho, resolve, invoke, builtin, Sem.run_bind, Sem.run_pure, Result.andThen_ok, List.map_toArray, List.map_cons, List.map_nil, hs, hx, hrun]
  exact hK _ _ (h v' w' h2 h3)

/-- Is there one among these, at the index that is answered? -/
def FoundG (w : World) (f : List UInt8 → Bool) (L : List (Value × List UInt8)) (e : Ending) (w' : World) : Prop := ∃ i : Int, e = .returned (.int .i64 i) ∧ decide (0 ≤ i) = L.any (fun p => f p.2) ∧ Below w.heap.size w w'
theorem anyG_take {f : List UInt8 → Bool} {L : List (Value × List UInt8)} {k : Nat} (h : k < L.length) : (L.take (k + 1)).any (fun p => f p.2) = ((L.take k).any (fun p => f p.2) || f L[k].2) := by
  rw [List.take_succ_eq_append_getElem h, List.any_append]
  simp

set_option maxRecDepth 100000 in
set_option maxHeartbeats 1600000 in
theorem index_bag (g : FuncId) (eg : ∀ args W, (callFunc g args).run Tryz.prog W = .ok (.enter g args) W) (f : List UInt8 → Bool) (hg : ∀ (B : Nat) (x : Value) (xs : List UInt8) (W : World), Byt W B x xs → Calls Tryz.prog g #[x] W fun e W' => e = .returned (.bool (f xs)) ∧ Below W.heap.size W W')
    (B : Nat) (x : Value) (L : List (Value × List UInt8)) (w : World) (hx : BagR w B x L) (hB : B ≤ w.heap.size) :
    Calls Tryz.prog 48 #[x, .func (.func g) #[] #[]] w (FoundG w f L) := by
  have hlen := hx.len
  obtain ⟨A, c, rfl⟩ := hx.form
  have HX := Lib.hid hx
  have HG := Lib.hid hg
  clear hx hg
  go_enter Tryz.func48, Tryz.ntmps48
  go_wp2_with fail
  go_loopw [8] (fun s wr => ∃ k : Nat, k ≤ L.length ∧ s = .int .i64 (k : Int) ∧ Hid ((L.take k).any (fun p => f p.2) = false) ∧ Hid (Below w.heap.size w wr)) (fun s _ => L.length - (intOf s).toNat)
  case atStart => exact ⟨0, Nat.zero_le _, rfl, Lib.hid (by simp), Lib.hid (Below.refl _ _)⟩
  case round =>
    obtain ⟨k, hk, rfl, hno, hbel⟩ := hrel
    by_cases hlt : k < L.length
    · have hx1 := HX.out.below (hbel.out.mono hB)
      obtain ⟨⟨A', c', e0, _, _, h4⟩, h5⟩ := hx1
      obtain ⟨e1, e2, e3⟩ := Value.slice.inj e0
      subst e1 e3
      clear e2
      obtain ⟨b, o, rfl, hb, hc⟩ := h4 (by rintro rfl; simp at hlt)
      have hc0 := hc k _ (List.getElem?_eq_getElem hlt)
      have hby := h5 _ (List.getElem_mem hlt)
      have hsn := anyG_take (f := f) hlt
      obtain ⟨⟨d, zs⟩, hq⟩ : ∃ q, q = L[k] := ⟨_, rfl⟩
      rw [← hq] at hc0 hby hsn
      dsimp only at hc0 hby hsn
      obtain ⟨Ad, cd, rfl⟩ := hby.form
      have HSN := Lib.hid hsn
      have HT := Lib.hid (HG.out _ _ zs wr hby)
      clear hc h4 h5 hq hsn e0 hby
      have hd : decide (k < L.length) = true := by simpa using hlt
      by_cases hq0 : f zs = true
      · rw [hq0] at HT HSN
        clear hq0
        go_wp2_with fail
        refine HT.out.mono ?_
        rintro e w1 ⟨rfl, hb1⟩
        go_wp2_with fail
        go_ret
        refine ⟨k, rfl, ?_, hbel.out.trans (hb1.mono hbel.out.size)⟩
        rw [decide_eq_true (by omega)]
        have h2 : (L.take (k + 1)).any (fun p => f p.2) = true := by rw [HSN.out]; simp
        symm
        rw [List.any_eq_true] at h2 ⊢
        obtain ⟨y, hy, hy2⟩ := h2
        exact ⟨y, List.mem_of_mem_take hy, hy2⟩
      · have hq1 : f zs = false := by simpa using hq0
        rw [hq1] at HT HSN
        clear hq0 hq1
        go_wp2_with fail
        refine HT.out.mono ?_
        rintro e w1 ⟨rfl, hb1⟩
        go_wp2_with fail
        go_roundw
        case rel => exact ⟨k + 1, by omega, by go_num, Lib.hid (by rw [HSN.out, hno.out]; rfl), Lib.hid (hbel.out.trans (hb1.mono hbel.out.size))⟩
        case measure => simp [intOf]; omega
    · obtain rfl : k = L.length := by omega
      go_wp2_with fail
      go_ret
      refine ⟨-1, rfl, ?_, hbel.out⟩
      have := hno.out
      rw [List.take_length] at this
      rw [this]
      rfl

set_option maxRecDepth 100000 in
set_option maxHeartbeats 800000 in
theorem contains_bag (g : FuncId) (eg : ∀ args W, (callFunc g args).run Tryz.prog W = .ok (.enter g args) W) (f : List UInt8 → Bool) (hg : ∀ (B : Nat) (x : Value) (xs : List UInt8) (W : World), Byt W B x xs → Calls Tryz.prog g #[x] W fun e W' => e = .returned (.bool (f xs)) ∧ Below W.heap.size W W')
    (B : Nat) (x : Value) (L : List (Value × List UInt8)) (w : World) (hx : BagR w B x L) (hB : B ≤ w.heap.size) :
    Calls Tryz.prog 23 #[x, .func (.func g) #[] #[]] w fun e w' => e = .returned (.bool (L.any (fun p => f p.2))) ∧ Below w.heap.size w w' := by
  have H := Lib.hid (index_bag g eg f hg B x L w hx hB)
  obtain ⟨A, c, rfl⟩ := hx.form
  clear hx hg eg
  go_enter Tryz.func23, Tryz.ntmps23
  go_wp2_with fail
  refine H.out.mono ?_
  rintro e w1 ⟨i, rfl, hi, hb⟩
  have HI := Lib.hid hi
  clear hi
  go_wp2_with fail
  go_ret
  exact ⟨by rw [← HI.out]; rfl, hb⟩
theorem payMulti1_any (B : Nat) (x : Value) (xs : List UInt8) (w : World) (hx : Byt w B x xs) :
    Calls Tryz.prog 24 #[x] w fun e w' => e = .returned (.bool (xs.length != 33)) ∧ Below w.heap.size w w' := by
  have hb : ((xs.length : Int) != 33) = (xs.length != 33) := by
    rw [Bool.eq_iff_iff]
    simp only [bne_iff_ne, ne_eq]
    omega
  have HB := Lib.hid hb
  obtain ⟨A, c, rfl⟩ := hx.form
  clear hb hx
  go_enter Tryz.func24, Tryz.ntmps24
  go_wp2_with fail
  go_ret
  exact ⟨by rw [← HB.out]; rfl, Below.refl _ _⟩
theorem contains_long (B : Nat) (x : Value) (L : List (Value × List UInt8)) (w : World) (hx : BagR w B x L) (hB : B ≤ w.heap.size) :
    Calls Tryz.prog 23 #[x, .func (.func 24) #[] #[]] w fun e w' => e = .returned (.bool (L.any (fun p => p.2.length != 33))) ∧ Below w.heap.size w w' :=
  contains_bag _ (enters_of Tryz.func24 (by kernel_rfl) rfl) (fun xs => xs.length != 33) payMulti1_any B x L w hx hB
end Go.Proofs.YtocblkacdoahfaaGreatDoor.Sn
