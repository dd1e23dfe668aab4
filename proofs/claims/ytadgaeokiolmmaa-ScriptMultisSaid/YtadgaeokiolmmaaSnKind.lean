/-
  script.Kind at the two forms of a digest of twenty bytes. Conditions: sizes within the reach.
-/
import Derived.Test.YtadgaeokiolmmaaSnWit
namespace Go.Proofs.Ytadgaeokiolmmaa
open Go.RowKit

theorem parse_code {c : UInt8} (h : 79 ≤ c.toNat) (xs : List UInt8) : parseP (c :: xs) = (parseP xs).map ((c, []) :: ·) := by
  rw [parseP_ok (by rw [opR_none (.inr h)]), opR_none (.inr h)]
theorem parse_digest {hs : List UInt8} (h : hs.length = 20) (xs : List UInt8) : parseP (20 :: (hs ++ xs)) = (parseP xs).map ((20, hs) :: ·) := by
  have q : opR 20 (hs ++ xs) = (hs, 0, xs) := by
    unfold opR sizeD
    rw [if_pos (by decide)]
    dsimp only
    have := rawR_app hs xs
    rw [h] at this
    exact this
  rw [parseP_ok (by rw [q]), q]
theorem parse_key {hs : List UInt8} (h : hs.length = 20) : parseP (keyForm hs) = some [(118, []), (169, []), (20, hs), (136, []), (172, [])] := by
  have e : keyForm hs = 118 :: 169 :: 20 :: (hs ++ [136, 172]) := rfl
  rw [e, parse_code (by decide), parse_code (by decide), parse_digest h, parse_code (by decide), parse_code (by decide), parseP_nil]
  rfl
theorem parse_script {hs : List UInt8} (h : hs.length = 20) : parseP (scriptForm hs) = some [(169, []), (20, hs), (135, [])] := by
  have e : scriptForm hs = 169 :: 20 :: (hs ++ [135]) := rfl
  rw [e, parse_code (by decide), parse_digest h, parse_code (by decide), parseP_nil]
  rfl

theorem ops_cell {w : World} {B n c : Nat} {A : Option Addr} {L : List Piece} (h : OpsR w B (.slice A n c) L) (hne : L ≠ []) : ∃ b o, A = some ⟨b, o, none⟩ ∧ b < B ∧ L.length = n ∧ L.length ≤ c ∧ c ≤ 9223372036854775807 ∧ ∀ i p, L[i]? = some p → w.cell? ⟨b, o + i * 2 + 1, none⟩ = some p.at_ := by
  obtain ⟨A', c', e, h1, h2, h3⟩ := h
  obtain ⟨e1, e2, e3⟩ := Value.slice.inj e
  subst e1 e3
  obtain ⟨b, o, e', hb, hc⟩ := h3 hne
  exact ⟨b, o, e', hb, e2.symm, h1, h2, fun i p hp => (hc i p hp).2.1⟩

/-- Parse of five operations, of three. -/
theorem parse_list (B : Nat) (x : Value) (zs : List UInt8) (ops : List (UInt8 × List UInt8)) (h : parseP zs = some ops) (w : World) (hx : Byt w B x zs) (hl : zs.length ≤ 60000000) :
    Calls Try.prog 12 #[x] w fun e w' => ∃ A c L, e = .returned (.tuple #[.slice A ops.length c, .int .i64 0]) ∧ L.map Piece.pair = ops ∧ OpsAt w' w.heap.size (.slice A ops.length c) L ∧ Below w.heap.size w w' := by
  refine (parse_any B x zs w hx hl).mono fun e w' hp => ?_
  unfold Parsed at hp
  rw [h] at hp
  exact hp
theorem codes_of {L : List Piece} {ops : List (UInt8 × List UInt8)} (h : L.map Piece.pair = ops) : L.map Piece.code = ops.map (·.1) := by
  rw [← h, List.map_map]
  rfl
theorem piece_at {L : List Piece} {ops : List (UInt8 × List UInt8)} (h : L.map Piece.pair = ops) {i : Nat} {c : UInt8} {ds : List UInt8} (hi : ops[i]? = some (c, ds)) : ∃ p, L[i]? = some p ∧ p.data = ds := by
  rw [← h, List.getElem?_map] at hi
  cases hp : L[i]? with
  | none => rw [hp] at hi; cases hi
  | some p =>
    rw [hp] at hi
    refine ⟨p, rfl, ?_⟩
    have : Piece.pair p = (c, ds) := Option.some.inj hi
    unfold Piece.pair at this
    exact (Prod.mk.inj this).2

/-- A kind, and one slice of bytes. -/
def KindV (w : World) (k : Int) (hs : List UInt8) (e : Ending) (w' : World) : Prop :=
  ∃ v u, e = .returned (.tuple #[.int .i64 k, v]) ∧ BagR w' w'.heap.size v [(u, hs)] ∧ Below w.heap.size w w'

set_option maxRecDepth 100000 in
set_option maxHeartbeats 6400000 in
theorem kind_key (B : Nat) (x : Value) (hs : List UInt8) (h : hs.length = 20) (w : World) (hx : Byt w B x (keyForm hs)) :
    Calls Try.prog 26 #[x] w (KindV w 1 hs) := by
  have hlen : (keyForm hs).length = 25 := by unfold keyForm; simp [h]
  have hx' := hx
  rw [show keyForm hs = 118 :: 169 :: 20 :: (hs ++ [136, 172]) from rfl] at hx'
  have HN := Lib.hid (prog_no B x 118 169 (20 :: (hs ++ [136, 172])) w hx' (by simp [h]) (by simp) (by simp [h]))
  have HP := Lib.hid (parse_list B x (keyForm hs) _ (parse_key h) w hx (by omega))
  obtain ⟨A, c, rfl⟩ := hx.form
  rw [hlen] at HN HP ⊢
  have HH := Lib.hid h
  clear hx hx' hlen h
  go_enter Try.func26, Try.ntmps26
  go_wp2_with fail
  refine HN.out.mono ?_
  rintro e w1 ⟨rfl, rfl⟩
  go_wp2_with fail
  refine HP.out.mono ?_
  rintro e w1 ⟨Av, cv, L, rfl, hL, hops, hb1⟩
  have hro := OpsR.of_at hops
  obtain ⟨p2, hp2, hd2⟩ := piece_at hL (i := 2) rfl
  have ho2 := hops.2.1 p2 (List.mem_of_getElem? hp2)
  rw [hd2] at ho2
  have hcod := codes_of hL
  obtain ⟨gb, go_, rfl, hgb, _, hcv1, hcv2, hcl⟩ := ops_cell hro (by rintro rfl; cases hp2)
  have hc2 := hcl 2 p2 hp2
  obtain ⟨pa, hpa⟩ : ∃ pa, pa = p2.at_ := ⟨_, rfl⟩
  rw [← hpa] at hc2 ho2
  obtain ⟨Ap, cp, rfl⟩ := own_form ho2
  have hm := Byt.made w1 5 [.int .u8 118, .int .u8 169, .int .u8 20, .int .u8 136, .int .u8 172] [118, 169, 20, 136, 172] rfl (by unfold maxLen; simp)
  have hbm : Below w1.heap.size w1 (w1.alloc (.cells #[.int .u8 118, .int .u8 169, .int .u8 20, .int .u8 136, .int .u8 172] 5)) := (Below.refl _ w1).alloc (Nat.le_refl _) _
  have hco := coded_any w1.heap.size (w1.heap.size + 1) _ _ L [118, 169, 20, 136, 172] _ (hro.below hbm) hm (by simp) (by simp)
  rw [hcod, show List.map (fun x : UInt8 × List UInt8 => x.1) [(118, []), (169, []), (20, hs), (136, []), (172, [])] = [118, 169, 20, 136, 172] from rfl, decide_eq_true rfl] at hco
  have HC := Lib.hid hco
  have HO := Lib.hid (Byt.of_own ho2)
  have HB1 := Lib.hid hb1
  have HB2 := Lib.hid hbm
  have HC2 := Lib.hid hc2
  have HGB := Lib.hid hgb
  have hlp : ([(118, []), (169, []), (20, hs), (136, []), (172, [])] : List (UInt8 × List UInt8)).length = 5 := rfl
  rw [hlp] at HC ⊢
  clear hlp hco hcod hm hbm hro hops ho2 hL hp2 hd2 hpa hcl hb1 hgb hc2 HN HP
  go_wp2_with fail
  refine HC.out.mono ?_
  rintro e w2 ⟨rfl, hb2⟩
  have hcell : w2.cell? ⟨gb, go_ + 4 + 1, none⟩ = some (.slice Ap hs.length cp) := (hb2.cell (p := ⟨gb, _, none⟩) (by have := HGB.out; show gb < _; simp; omega)).trans ((HB2.out.cell (p := ⟨gb, _, none⟩) HGB.out).trans HC2.out)
  have hcell5 : w2.cell? ⟨gb, go_ + 5, none⟩ = some (.slice Ap hs.length cp) := hcell
  have HO2 := Lib.hid (((HO.out.below HB2.out).below (hb2.mono (by simp))).more (by have := hb2.size; simp at this; omega : _ ≤ w2.heap.size))
  have HB3 := Lib.hid ((HB1.out.trans (HB2.out.mono HB1.out.size)).trans (hb2.mono (by have := HB1.out.size; simp; omega)))
  clear hb2 HC HC2
  go_wp2_with fail
  go_region
  go_wp2_with fail
  go_ret2
  have bag := BagR.made w2 22 [.slice Ap hs.length cp] [(.slice Ap hs.length cp, hs)] rfl (by unfold maxLen; simp) (by intro p hp; simp only [List.mem_cons, List.not_mem_nil, or_false] at hp; subst hp; exact HO2.out)
  have dr : ∀ B (W : World), Below B W W.drew := fun _ _ => ⟨rfl, rfl, rfl, Nat.le_refl _, fun _ _ => rfl⟩
  exact ⟨_, _, rfl, (bag.below (dr _ _)).more (by simp), (HB3.out.alloc HB3.out.size (.cells #[.slice Ap hs.length cp] 22)).trans (dr _ _)⟩
theorem byt_below {B : Nat} (w : World) (o : Obj) (h : B ≤ w.heap.size) : Below B w (w.alloc o) := (Below.refl _ w).alloc h o

set_option maxRecDepth 100000 in
set_option maxHeartbeats 6400000 in
theorem kind_script (B : Nat) (x : Value) (hs : List UInt8) (h : hs.length = 20) (w : World) (hx : Byt w B x (scriptForm hs)) :
    Calls Try.prog 26 #[x] w (KindV w 2 hs) := by
  have hlen : (scriptForm hs).length = 23 := by unfold scriptForm; simp [h]
  have hx' := hx
  rw [show scriptForm hs = 169 :: 20 :: (hs ++ [135]) from rfl] at hx'
  have HN := Lib.hid (prog_no B x 169 20 (hs ++ [135]) w hx' (by simp [h]) (by simp [h]) (by simp [h]))
  have HP := Lib.hid (parse_list B x (scriptForm hs) _ (parse_script h) w hx (by omega))
  obtain ⟨A, c, rfl⟩ := hx.form
  rw [hlen] at HN HP ⊢
  have HH := Lib.hid h
  clear hx hx' hlen h
  go_enter Try.func26, Try.ntmps26
  go_wp2_with fail
  refine HN.out.mono ?_
  rintro e w1 ⟨rfl, rfl⟩
  go_wp2_with fail
  refine HP.out.mono ?_
  rintro e w1 ⟨Av, cv, L, rfl, hL, hops, hb1⟩
  have hro := OpsR.of_at hops
  obtain ⟨p2, hp2, hd2⟩ := piece_at hL (i := 1) rfl
  have ho2 := hops.2.1 p2 (List.mem_of_getElem? hp2)
  rw [hd2] at ho2
  have hcod := codes_of hL
  obtain ⟨gb, go_, rfl, hgb, _, hcv1, hcv2, hcl⟩ := ops_cell hro (by rintro rfl; cases hp2)
  have hc2 := hcl 1 p2 hp2
  obtain ⟨pa, hpa⟩ : ∃ pa, pa = p2.at_ := ⟨_, rfl⟩
  rw [← hpa] at hc2 ho2
  obtain ⟨Ap, cp, rfl⟩ := own_form ho2
  have hm := Byt.made w1 5 [.int .u8 118, .int .u8 169, .int .u8 20, .int .u8 136, .int .u8 172] [118, 169, 20, 136, 172] rfl (by unfold maxLen; simp)
  have hbm : Below w1.heap.size w1 (w1.alloc (.cells #[.int .u8 118, .int .u8 169, .int .u8 20, .int .u8 136, .int .u8 172] 5)) := (Below.refl _ w1).alloc (Nat.le_refl _) _
  have hck := coded_any w1.heap.size (w1.heap.size + 1) _ _ L [118, 169, 20, 136, 172] _ (hro.below hbm) hm (by simp) (by simp)
  rw [hcod, show List.map (fun x : UInt8 × List UInt8 => x.1) [(169, []), (20, hs), (135, [])] = [169, 20, 135] from rfl, decide_eq_false (by decide)] at hck
  have HK := Lib.hid hck
  have hco := fun (w9 : World) (h9 : Below w1.heap.size w1 w9) => coded_any w1.heap.size (w9.heap.size + 1) _ _ L [169, 20, 135] _ ((hro.below h9).below (byt_below w9 (.cells #[.int .u8 169, .int .u8 20, .int .u8 135] 5) h9.size)) (Byt.made w9 5 [.int .u8 169, .int .u8 20, .int .u8 135] [169, 20, 135] rfl (by unfold maxLen; simp)) (by have := h9.size; simp; omega) (by simp)
  rw [hcod, show List.map (fun x : UInt8 × List UInt8 => x.1) [(169, []), (20, hs), (135, [])] = [169, 20, 135] from rfl, decide_eq_true rfl] at hco
  have HC := Lib.hid hco
  have HO := Lib.hid (Byt.of_own ho2)
  have HB1 := Lib.hid hb1
  have HB2 := Lib.hid hbm
  have HC2 := Lib.hid hc2
  have HGB := Lib.hid hgb
  have hlp : ([(169, []), (20, hs), (135, [])] : List (UInt8 × List UInt8)).length = 3 := rfl
  rw [hlp] at HC HK ⊢
  clear hlp hco hck hcod hm hbm hro hops ho2 hL hp2 hd2 hpa hcl hb1 hgb hc2 HN HP
  go_wp2_with fail
  refine HK.out.mono ?_
  rintro e w9 ⟨rfl, hb9⟩
  have HB9 := Lib.hid (HB2.out.trans (hb9.mono (by simp)))
  clear hb9
  go_wp2_with fail
  refine (HC.out w9 HB9.out).mono ?_
  rintro e w2 ⟨rfl, hb2⟩
  have hb92 : Below w1.heap.size w1 w2 := (HB9.out.alloc HB9.out.size (.cells #[.int .u8 169, .int .u8 20, .int .u8 135] 5)).trans (hb2.mono (by have := HB9.out.size; simp; omega))
  have hcell : w2.cell? ⟨gb, go_ + 2 + 1, none⟩ = some (.slice Ap hs.length cp) := (hb92.cell (p := ⟨gb, _, none⟩) HGB.out).trans HC2.out
  have hcell5 : w2.cell? ⟨gb, go_ + 3, none⟩ = some (.slice Ap hs.length cp) := hcell
  have HO2 := Lib.hid ((HO.out.below hb92).more hb92.size)
  have HB3 := Lib.hid (HB1.out.trans (hb92.mono HB1.out.size))
  clear hb92
  clear hb2 HC HK HC2
  go_wp2_with fail
  go_region
  go_wp2_with fail
  go_ret2
  have bag := BagR.made w2 22 [.slice Ap hs.length cp] [(.slice Ap hs.length cp, hs)] rfl (by unfold maxLen; simp) (by intro p hp; simp only [List.mem_cons, List.not_mem_nil, or_false] at hp; subst hp; exact HO2.out)
  have dr : ∀ B (W : World), Below B W W.drew := fun _ _ => ⟨rfl, rfl, rfl, Nat.le_refl _, fun _ _ => rfl⟩
  exact ⟨_, _, rfl, (bag.below (dr _ _)).more (by simp), (HB3.out.alloc HB3.out.size (.cells #[.slice Ap hs.length cp] 22)).trans (dr _ _)⟩
end Go.Proofs.Ytadgaeokiolmmaa
