/-
  Texts joined: Hex, HexRef, Val. Conditions: those of each.
-/
import Derived.Test.YtgiljhdjknglpaaDoorK11
import Derived.Test.YtgiljhdjknglpaaDoorK5
/-
  text.Hex: two digits for each byte. Conditions: sizes within the reach.
-/
namespace Go.Proofs.YtgiljhdjknglpaaDoor
open Go.RowKit

def nibs (c : UInt8) : List UInt8 := [b8 ((c.toNat : Int) / 16), b8 ((c.toNat : Int) % 16)]
def nibsOf (xs : List UInt8) : List UInt8 := xs.flatMap nibs
theorem nibsOf_length (xs : List UInt8) : (nibsOf xs).length = 2 * xs.length := by
  induction xs with
  | nil => rfl
  | cons c xs ih => unfold nibsOf at ih ⊢; rw [List.flatMap_cons, List.length_append, ih, List.length_cons]; simp [nibs]; omega
theorem nibsOf_snoc {xs : List UInt8} {i : Nat} {q : UInt8} (h : xs[i]? = some q) : nibsOf (xs.take (i + 1)) = nibsOf (xs.take i) ++ nibs q := by
  unfold nibsOf
  rw [List.take_add_one, h, List.flatMap_append]
  simp

theorem nibs_small {xs : List UInt8} {p : UInt8} (h : p ∈ nibsOf xs) : p.toNat < 22 := by
  unfold nibsOf at h
  obtain ⟨c, _, hc⟩ := List.mem_flatMap.1 h
  have hlt := c.toNat_lt
  have hb := b8_toNat ((c.toNat : Int) / 16)
  have hb2 := b8_toNat ((c.toNat : Int) % 16)
  unfold nibs at hc
  rcases List.mem_cons.1 hc with rfl | hc
  · omega
  · rw [List.mem_singleton.1 hc]
    omega

set_option maxRecDepth 100000 in
set_option maxHeartbeats 1600000 in
theorem hexp_any (B : Nat) (x : Value) (xs : List UInt8) (w : World) (hx : Byt w B x xs) (hB : B ≤ w.heap.size) (hl : xs.length ≤ 30000) :
    Calls Tryd.prog 14 #[x] w fun e w' => e = .returned (.string ⟨(letters ⟨#[48, 49, 50, 51, 52, 53, 54, 55, 56, 57, 97, 98, 99, 100, 101, 102, 65, 66, 67, 68, 69, 70]⟩ (nibsOf xs)).toArray⟩) ∧ Below w.heap.size w w' := by
  obtain ⟨i0, hi, hz0, hz1, hz2⟩ := info_parts info_u8
  obtain ⟨A, c, hxf⟩ := hx.form
  subst hxf
  obtain ⟨w0, hmk, hown0, hg0⟩ := run_make_own (P := Tryd.prog) w w.heap.size 23 5 i0 (.int .u8 0) 1 slice_u8 hi hz0 hz1 .i64 .i64 (2 * xs.length) (by rw [hz2]; omega) (by unfold maxLen; omega) (Nat.le_refl _)
  have hcast : (((2 * xs.length : Nat)) : Int) = 2 * (xs.length : Int) := by omega
  rw [hcast] at hmk
  have hb0 : Below w.heap.size w w0 := (Below.refl _ _).grown hg0 (Nat.le_refl _) (fun k hk => by cases hk)
  have hX := Lib.hid hx
  have HB0 := Lib.hid hb0
  clear hx hg0 hcast
  go_enter Tryd.func14, Tryd.ntmps14
  go_wp2_with fail
  clear hmk
  go_loopw [12, 3] (fun j v wr => ∃ i : Nat, i ≤ xs.length ∧ j = .int .i64 i ∧ wr.ownsRow w.heap.size 5 1 v (nibsOf (xs.take i)).length ((nibsOf (xs.take i)).map bv) ∧ Below w.heap.size w wr) (fun j _ _ => xs.length - (intOf j).toNat)
  case atStart => exact ⟨0, Nat.zero_le _, rfl, by simpa [nibsOf] using hown0, HB0.out⟩
  case round =>
    obtain ⟨i, hi2, rfl, hown, hbel⟩ := hrel
    by_cases hlt : i < xs.length
    · obtain ⟨A', c', e0, _, _, _, h4⟩ := hX.out
      injection e0 with e1 e2 e3
      subst e1 e3
      obtain ⟨b, o, rfl, hb, hbc⟩ := h4 (by rintro rfl; simp at hlt)
      have hci := hbc i _ (List.getElem?_eq_getElem hlt)
      obtain ⟨q, hq⟩ : ∃ q, q = xs[i] := ⟨_, rfl⟩
      rw [← hq] at hci
      have hbi : wr.cell? ⟨b, o + i, none⟩ = some (.int .u8 (q.toNat : Int)) := (hbel.cell (p := ⟨b, _, none⟩) (by show b < _; omega)).trans hci
      have hqi : xs[i]? = some q := by rw [hq]; exact List.getElem?_eq_getElem hlt
      have hsn := nibsOf_snoc hqi
      obtain ⟨zs, hzs⟩ : ∃ zs, zs = nibsOf (xs.take i) := ⟨_, rfl⟩
      have hzl : zs.length ≤ 60000 := by rw [hzs, nibsOf_length, List.length_take]; omega
      rw [← hzs] at hown hsn
      have hq256 := q.toNat_lt
      have hmade : Byt (wr.alloc (.cells #[.int .u8 ((q.toNat : Int) / 16), .int .u8 ((q.toNat : Int) % 16)] 5)) (wr.heap.size + 1) (.slice (some ⟨wr.heap.size, 0, none⟩) 2 2) (nibs q) :=
        Byt.made wr _ [_, _] (nibs q) (by unfold nibs; rw [List.map_cons, List.map_cons, List.map_nil, bv_b8_of (by omega) (by omega), bv_b8_of (by omega) (by omega)]) (by unfold maxLen; simp [nibs])
      obtain ⟨As, cs, rfl⟩ := own_form hown
      have hbs := hbel.size
      have HS := Lib.hid hsn
      clear hci hbc h4 hq hqi hsn hzs
      go_wp2_with (at_builtin; refine wpList_append_bytes rfl (.tmp 16) (.tmp 21) 23 rfl w.heap.size 5 i0 slice_u8 hi hz0 hz1 hz2 _ zs.length (zs.map bv) rfl (hown.alloc _) (wr.heap.size + 1) _ (nibs q) rfl hmade (by simp [nibs]; omega) (by simp; omega) ?_; intro v1 w1 hown1 hg1 hat1)
      have hb1 : Below w.heap.size w w1 := (hbel.alloc hbs _).grown hg1 (by simp; omega) (fun j hj => (hown.lt j hj).1)
      go_roundw
      case rel =>
        refine ⟨i + 1, by omega, by go_num, ?_, hb1⟩
        rw [HS.out, List.length_append, List.map_append]
        exact hown1
      case measure => simp [intOf]; omega
    · have hie : xs.take i = xs := List.take_of_length_le (by omega)
      rw [hie] at hown
      have hby := Byt.of_own hown
      obtain ⟨As, cs, rfl⟩ := own_form hown
      have hlen := nibsOf_length xs
      have hsp := spell_any wr.heap.size _ (nibsOf xs) ⟨#[48, 49, 50, 51, 52, 53, 54, 55, 56, 57, 97, 98, 99, 100, 101, 102, 65, 66, 67, 68, 69, 70]⟩ wr hby (Nat.le_refl _) (by omega) (fun p hp => nibs_small hp)
      have HSP := Lib.hid hsp
      clear hown hby hsp hie hlen
      go_wp2_with fail
      refine HSP.out.mono ?_
      rintro e w2 ⟨rfl, hb2⟩
      go_wp2
      go_ret
      exact ⟨rfl, hbel.trans (hb2.mono hbel.size)⟩

end Go.Proofs.YtgiljhdjknglpaaDoor

/-
  The reference's Hex and value. Conditions: sizes within the reach.
-/
namespace Go.Proofs.YtgiljhdjknglpaaDoor
open Go.RowKit

def hexD : ByteArray := ⟨#[48, 49, 50, 51, 52, 53, 54, 55, 56, 57, 97, 98, 99, 100, 101, 102, 65, 66, 67, 68, 69, 70]⟩
/-- A digit's number. -/
def digI (q : Int) : Int := if q < 10 then 48 + q else 87 + q
def digs (c : UInt8) : List UInt8 := [b8 (digI ((c.toNat : Int) / 16)), b8 (digI ((c.toNat : Int) % 16))]
def digsOf (xs : List UInt8) : List UInt8 := xs.flatMap digs
theorem digsOf_length (xs : List UInt8) : (digsOf xs).length = 2 * xs.length := by
  induction xs with
  | nil => rfl
  | cons c xs ih => unfold digsOf at ih ⊢; rw [List.flatMap_cons, List.length_append, ih, List.length_cons]; simp [digs]; omega
theorem digsOf_snoc {xs : List UInt8} {i : Nat} {q : UInt8} (h : xs[i]? = some q) : digsOf (xs.take (i + 1)) = digsOf (xs.take i) ++ digs q := by
  unfold digsOf
  rw [List.take_add_one, h, List.flatMap_append]
  simp
theorem dig_letter : ∀ n : Fin 16, hexD.data.toList.getD (b8 (n.val : Int)).toNat 0 = b8 (digI (n.val : Int)) := by decide +kernel
theorem digs_letters (xs : List UInt8) : letters hexD (nibsOf xs) = digsOf xs := by
  unfold letters nibsOf digsOf
  rw [List.map_flatMap]
  refine congrArg (fun f => List.flatMap f xs) (funext fun c => ?_)
  have hc := c.toNat_lt
  have h1 := dig_letter ⟨c.toNat / 16, by omega⟩
  have h2 := dig_letter ⟨c.toNat % 16, by omega⟩
  have e1 : ((c.toNat / 16 : Nat) : Int) = (c.toNat : Int) / 16 := by omega
  have e2 : ((c.toNat % 16 : Nat) : Int) = (c.toNat : Int) % 16 := by omega
  dsimp only at h1 h2
  rw [e1] at h1
  rw [e2] at h2
  unfold nibs digs
  rw [List.map_cons, List.map_cons, List.map_nil, h1, h2]

theorem digI_bd {q : Int} (h0 : 0 ≤ q) (h1 : q ≤ 15) : 48 ≤ digI q ∧ digI q ≤ 102 := by
  unfold digI
  split <;> omega
theorem digit_dig (q : Int) (w : World) (h0 : 0 ≤ q) (h1 : q ≤ 15) :
    Calls Tryd.prog 37 #[.int .u8 q] w fun e w' => e = .returned (.int .u8 (digI q)) ∧ w = w' := digit_any q w h0 h1

set_option maxRecDepth 100000 in
set_option maxHeartbeats 1600000 in
theorem refHex_any (B : Nat) (x : Value) (xs : List UInt8) (w : World) (hx : Byt w B x xs) (hB : B ≤ w.heap.size) (hl : xs.length ≤ 30000) :
    Calls Tryd.prog 18 #[x] w fun e w' => e = .returned (.string ⟨(digsOf xs).toArray⟩) ∧ Below w.heap.size w w' := by
  obtain ⟨i0, hi, hz0, hz1, hz2⟩ := info_parts info_u8
  obtain ⟨A, c, hxf⟩ := hx.form
  subst hxf
  have hX := Lib.hid hx
  clear hx
  go_enter Tryd.func18, Tryd.ntmps18
  go_wp2_with fail
  go_loopw [4, 3] (fun j v wr => ∃ i : Nat, i ≤ xs.length ∧ j = .int .i64 i ∧ wr.ownsRow w.heap.size 5 1 v (digsOf (xs.take i)).length ((digsOf (xs.take i)).map bv) ∧ Below w.heap.size w wr) (fun j _ _ => xs.length - (intOf j).toNat)
  case atStart => exact ⟨0, Nat.zero_le _, rfl, by simpa [digsOf] using World.ownsRow_nil _ _ _ _, Below.refl _ _⟩
  case round =>
    obtain ⟨i, hi2, rfl, hown, hbel⟩ := hrel
    by_cases hlt : i < xs.length
    · obtain ⟨A', c', e0, _, _, _, h4⟩ := hX.out
      injection e0 with e1 e2 e3
      subst e1 e3
      obtain ⟨b, o, rfl, hb, hbc⟩ := h4 (by rintro rfl; simp at hlt)
      have hci := hbc i _ (List.getElem?_eq_getElem hlt)
      obtain ⟨q, hq⟩ : ∃ q, q = xs[i] := ⟨_, rfl⟩
      rw [← hq] at hci
      have hbi : wr.cell? ⟨b, o + i, none⟩ = some (.int .u8 (q.toNat : Int)) := (hbel.cell (p := ⟨b, _, none⟩) (by show b < _; omega)).trans hci
      have hqi : xs[i]? = some q := by rw [hq]; exact List.getElem?_eq_getElem hlt
      have hsn := digsOf_snoc hqi
      obtain ⟨zs, hzs⟩ : ∃ zs, zs = digsOf (xs.take i) := ⟨_, rfl⟩
      have hzl : zs.length ≤ 60000 := by rw [hzs, digsOf_length, List.length_take]; omega
      rw [← hzs] at hown hsn
      have hq256 := q.toNat_lt
      have hd1 := digI_bd (q := (q.toNat : Int) / 16) (by omega) (by omega)
      have hd2 := digI_bd (q := (q.toNat : Int) % 16) (by omega) (by omega)
      obtain ⟨y1, hy1⟩ : ∃ y1, y1 = digI ((q.toNat : Int) / 16) := ⟨_, rfl⟩
      obtain ⟨y2, hy2⟩ : ∃ y2, y2 = digI ((q.toNat : Int) % 16) := ⟨_, rfl⟩
      have S1 := fun W => digit_dig ((q.toNat : Int) / 16) W (by omega) (by omega)
      have S2 := fun W => digit_dig ((q.toNat : Int) % 16) W (by omega) (by omega)
      have hdq : digs q = [b8 y1, b8 y2] := by rw [hy1, hy2]; rfl
      rw [← hy1] at hd1 S1
      rw [← hy2] at hd2 S2
      rw [hdq] at hsn
      have hmade : Byt (wr.alloc (.cells #[.int .u8 y1, .int .u8 y2] 5)).drew (wr.heap.size + 1) (.slice (some ⟨wr.heap.size, 0, none⟩) 2 2) [b8 y1, b8 y2] :=
        (Byt.made wr _ [_, _] [b8 y1, b8 y2] (by rw [List.map_cons, List.map_cons, List.map_nil, bv_b8_of (by omega) (by omega), bv_b8_of (by omega) (by omega)]) (by unfold maxLen; simp)).keep (fun _ _ _ => rfl)
      obtain ⟨As, cs, rfl⟩ := own_form hown
      have hbs := hbel.size
      have hw1 : IntKind.u8.wrap ((q.toNat : Int) / 16) = (q.toNat : Int) / 16 := by rw [IntKind.wrap_u8]; omega
      have hw2 : IntKind.u8.wrap ((q.toNat : Int) % 16) = (q.toNat : Int) % 16 := by rw [IntKind.wrap_u8]; omega
      have HS := Lib.hid hsn
      have HX1 := Lib.hid S1
      have HX2 := Lib.hid S2
      have hod : (wr.alloc (.cells #[.int .u8 y1, .int .u8 y2] 5)).drew.ownsRow w.heap.size 5 1 (.slice As zs.length cs) zs.length (zs.map bv) := (hown.alloc _).drew
      have HOD := Lib.hid hod
      clear hbc h4 hq hqi hsn hzs hy1 hy2 hdq S1 S2 hod
      have hwt : ((q.toNat : Int)).tmod 16 = (q.toNat : Int) % 16 := by rw [Int.tmod_eq_emod_of_nonneg (by omega)]
      go_wp2_with fail
      refine wp_region_held_drew (S := (fun w' => w'.cell? ⟨b, o + i, none⟩ = some (.int .u8 (q.toNat : Int)))) (by kernel_rfl) ?_ (fun hHeld => ?_)
      · exact hbi
      refine wpAnyH_take (i := 0) (oi := { dst := some 11, op := Go.Op.move (Go.Operand.tmp 3), type := 23, pos := "ref.go:13", after := #[], guard := none }) (v := ?av0) rfl (by kernel_rfl) (by kernel_rfl) (by kernel_rfl) (fun _ _ _ h => h) (Or.inl ⟨by rfl, ?ay0⟩) (by assumption) ?ar0
      case ay0 => (intro w hSw; (try dsimp only at hSw); go_simp; try (with_reducible rfl))
      case ar0 =>
      try simp only [Act.put, List.setIfInBounds_toArray, List.set_cons_zero, List.set_cons_succ]
      refine wpAnyH_take (i := 1) (oi := { dst := some 12, op := Go.Op.move (Go.Operand.tmp 0), type := 23, pos := "ref.go:13", after := #[], guard := none }) (v := ?av1) rfl (by kernel_rfl) (by kernel_rfl) (by kernel_rfl) (fun _ _ _ h => h) (Or.inl ⟨by rfl, ?ay1⟩) (by assumption) ?ar1
      case ay1 => (intro w hSw; (try dsimp only at hSw); go_simp; try (with_reducible rfl))
      case ar1 =>
      try simp only [Act.put, List.setIfInBounds_toArray, List.set_cons_zero, List.set_cons_succ]
      refine wpAnyH_take (i := 2) (oi := { dst := some 13, op := Go.Op.move (Go.Operand.tmp 4), type := 3, pos := "ref.go:13", after := #[], guard := none }) (v := ?av2) rfl (by kernel_rfl) (by kernel_rfl) (by kernel_rfl) (fun _ _ _ h => h) (Or.inl ⟨by rfl, ?ay2⟩) (by assumption) ?ar2
      case ay2 => (intro w hSw; (try dsimp only at hSw); go_simp; try (with_reducible rfl))
      case ar2 =>
      try simp only [Act.put, List.setIfInBounds_toArray, List.set_cons_zero, List.set_cons_succ]
      refine wpAnyH_take (i := 3) (oi := { dst := some 14, op := Go.Op.indexAddr 23 (Go.Operand.tmp 12) (Go.Operand.tmp 13), type := 0, pos := "ref.go:13", after := #[{ on := 1, ground := Go.Ground.data }, { on := 2, ground := Go.Ground.data }], guard := none }) (v := ?av3) rfl (by kernel_rfl) (by kernel_rfl) (by kernel_rfl) (fun _ _ _ h => h) (Or.inl ⟨by rfl, ?ay3⟩) (by assumption) ?ar3
      case ay3 => (intro w hSw; (try dsimp only at hSw); go_simp; try (with_reducible rfl))
      case ar3 =>
      try simp only [Act.put, List.setIfInBounds_toArray, List.set_cons_zero, List.set_cons_succ]
      refine wpAnyH_take (i := 4) (oi := { dst := some 15, op := Go.Op.load 5 (Go.Operand.tmp 14), type := 5, pos := "ref.go:13", after := #[{ on := 3, ground := Go.Ground.data }], guard := none }) (v := ?av4) rfl (by kernel_rfl) (by kernel_rfl) (by kernel_rfl) (fun _ _ _ h => h) (Or.inl ⟨by rfl, ?ay4⟩) (by assumption) ?ar4
      case ay4 => (intro w hSw; (try dsimp only at hSw); go_simp; try (with_reducible rfl))
      case ar4 =>
      try simp only [Act.put, List.setIfInBounds_toArray, List.set_cons_zero, List.set_cons_succ]
      refine wpAnyH_take (i := 5) (oi := { dst := some 16, op := Go.Op.binOp Go.BinOp.quo 5 (Go.Operand.tmp 15) (Go.Operand.const (Go.Value.int Go.IntKind.u8 16)) 5, type := 5, pos := "ref.go:13", after := #[{ on := 4, ground := Go.Ground.data }], guard := none }) (v := ?av5) rfl (by kernel_rfl) (by kernel_rfl) (by kernel_rfl) (fun _ _ _ h => h) (Or.inl ⟨by rfl, ?ay5⟩) (by assumption) ?ar5
      case ay5 => (intro w hSw; (try dsimp only at hSw); go_simp; try (with_reducible rfl))
      case ar5 =>
      try simp only [Act.put, List.setIfInBounds_toArray, List.set_cons_zero, List.set_cons_succ]
      refine wpAnyH_take (i := 7) (oi := { dst := some 18, op := Go.Op.move (Go.Operand.tmp 0), type := 23, pos := "ref.go:13", after := #[], guard := none }) (v := ?av7) rfl (by kernel_rfl) (by kernel_rfl) (by kernel_rfl) (fun _ _ _ h => h) (Or.inl ⟨by rfl, ?ay7⟩) (by assumption) ?ar7
      case ay7 => (intro w hSw; (try dsimp only at hSw); go_simp; try (with_reducible rfl))
      case ar7 =>
      try simp only [Act.put, List.setIfInBounds_toArray, List.set_cons_zero, List.set_cons_succ]
      refine wpAnyH_take (i := 8) (oi := { dst := some 19, op := Go.Op.move (Go.Operand.tmp 4), type := 3, pos := "ref.go:13", after := #[], guard := none }) (v := ?av8) rfl (by kernel_rfl) (by kernel_rfl) (by kernel_rfl) (fun _ _ _ h => h) (Or.inl ⟨by rfl, ?ay8⟩) (by assumption) ?ar8
      case ay8 => (intro w hSw; (try dsimp only at hSw); go_simp; try (with_reducible rfl))
      case ar8 =>
      try simp only [Act.put, List.setIfInBounds_toArray, List.set_cons_zero, List.set_cons_succ]
      refine wpAnyH_take (i := 9) (oi := { dst := some 20, op := Go.Op.indexAddr 23 (Go.Operand.tmp 18) (Go.Operand.tmp 19), type := 0, pos := "ref.go:13", after := #[{ on := 7, ground := Go.Ground.data }, { on := 8, ground := Go.Ground.data }], guard := none }) (v := ?av9) rfl (by kernel_rfl) (by kernel_rfl) (by kernel_rfl) (fun _ _ _ h => h) (Or.inl ⟨by rfl, ?ay9⟩) (by assumption) ?ar9
      case ay9 => (intro w hSw; (try dsimp only at hSw); go_simp; try (with_reducible rfl))
      case ar9 =>
      try simp only [Act.put, List.setIfInBounds_toArray, List.set_cons_zero, List.set_cons_succ]
      refine wpAnyH_take (i := 10) (oi := { dst := some 21, op := Go.Op.load 5 (Go.Operand.tmp 20), type := 5, pos := "ref.go:13", after := #[{ on := 9, ground := Go.Ground.data }], guard := none }) (v := ?av10) rfl (by kernel_rfl) (by kernel_rfl) (by kernel_rfl) (fun _ _ _ h => h) (Or.inl ⟨by rfl, ?ay10⟩) (by assumption) ?ar10
      case ay10 => (intro w hSw; (try dsimp only at hSw); go_simp; try (with_reducible rfl))
      case ar10 =>
      try simp only [Act.put, List.setIfInBounds_toArray, List.set_cons_zero, List.set_cons_succ]
      refine wpAnyH_take (i := 11) (oi := { dst := some 22, op := Go.Op.binOp Go.BinOp.rem 5 (Go.Operand.tmp 21) (Go.Operand.const (Go.Value.int Go.IntKind.u8 16)) 5, type := 5, pos := "ref.go:13", after := #[{ on := 10, ground := Go.Ground.data }], guard := none }) (v := ?av11) rfl (by kernel_rfl) (by kernel_rfl) (by kernel_rfl) (fun _ _ _ h => h) (Or.inl ⟨by rfl, ?ay11⟩) (by assumption) ?ar11
      case ay11 => (intro w hSw; (try dsimp only at hSw); go_simp; try (with_reducible rfl))
      case ar11 =>
      try simp only [Act.put, List.setIfInBounds_toArray, List.set_cons_zero, List.set_cons_succ]
      refine wpAnyH_ready (rs := [6]) (by kernel_rfl) (by simp) ?_
      refine AllReadyH.cons (o := { dst := some 17, op := Go.Op.call { callee := Go.Callee.value (Go.Operand.func 37), args := #[Go.Operand.tmp 16], argTypes := #[5] }, type := 5, pos := "ref.go:13", after := #[{ on := 5, ground := Go.Ground.data }], guard := none }) rfl (fun K hK => ?_) (AllReadyH.nil)
      go_simp
      refine (HX1.out _).mono ?_
      rintro e w4 ⟨rfl, rfl⟩
      go_simp
      refine hK.out _ _ ?_ (fun hHeld => ?_)
      · exact hHeld
      clear hK K
      try simp only [Act.put, List.setIfInBounds_toArray, List.set_cons_zero, List.set_cons_succ]
      refine wpAnyH_ready (rs := [12]) (by kernel_rfl) (by simp) ?_
      refine AllReadyH.cons (o := { dst := some 23, op := Go.Op.call { callee := Go.Callee.value (Go.Operand.func 37), args := #[Go.Operand.tmp 22], argTypes := #[5] }, type := 5, pos := "ref.go:13", after := #[{ on := 11, ground := Go.Ground.data }, { on := 6, ground := Go.Ground.chain }], guard := none }) rfl (fun K hK => ?_) (AllReadyH.nil)
      go_simp
      refine (HX2.out _).mono ?_
      rintro e w4 ⟨rfl, rfl⟩
      go_simp
      refine hK.out _ _ ?_ (fun hHeld => ?_)
      · exact hHeld
      clear hK K
      try simp only [Act.put, List.setIfInBounds_toArray, List.set_cons_zero, List.set_cons_succ]
      refine wpAnyH_ready (rs := [13]) (by kernel_rfl) (by simp) ?_
      refine AllReadyH.cons (o := { dst := some 24, op := Go.Op.buildSlice 23 2 #[(0, Go.Operand.tmp 17), (1, Go.Operand.tmp 23)], type := 23, pos := "ref.go:13", after := #[{ on := 6, ground := Go.Ground.data }, { on := 12, ground := Go.Ground.data }], guard := none }) rfl (fun K hK => ?_) (AllReadyH.nil)
      go_simp
      refine hK.out _ _ ?_ (fun hHeld => ?_)
      · exact (World.cell?_alloc_lt wr _ _ (by show b < _; omega)).trans hbi
      clear hK K
      try simp only [Act.put, List.setIfInBounds_toArray, List.set_cons_zero, List.set_cons_succ]
      refine wpAnyH_ready (rs := [14]) (by kernel_rfl) (by simp) ?_
      refine AllReadyH.cons (o := { dst := some 25, op := Go.Op.call { callee := Go.Callee.builtin Go.Builtin.append, args := #[Go.Operand.tmp 11, Go.Operand.tmp 24], argTypes := #[23, 23] }, type := 23, pos := "ref.go:13", after := #[{ on := 0, ground := Go.Ground.data }, { on := 13, ground := Go.Ground.data }, { on := 12, ground := Go.Ground.chain }], guard := none }) rfl (fun K hK => ?_) (AllReadyH.nil)
      simp only [Region.wanted, if_true]
      refine op_append_bytes (.tmp 11) (.tmp 24) 23 rfl w.heap.size 5 i0 slice_u8 hi hz0 hz1 hz2 _ zs.length (zs.map bv) rfl HOD.out (wr.heap.size + 1) _ [b8 y1, b8 y2] rfl hmade (by simp; omega) (by simp; omega) ?_
      intro v1 w1 hown1 hg1 hat1
      have hb1 : Below w.heap.size w w1 := (((hbel.alloc hbs _).drew)).grown hg1 (by simp; omega) (fun j hj => (HOD.out.lt j hj).1)
      have hcw1 : w1.cell? ⟨b, o + i, none⟩ = some (.int .u8 (q.toNat : Int)) := (hb1.cell (p := ⟨b, _, none⟩) (by show b < _; omega)).trans hci
      have HH := Lib.hid hown1
      clear hown1 hg1 hat1
      refine hK.out _ _ ?_ (fun hHeld => ?_)
      · exact hcw1
      clear hK K
      try simp only [Act.put, List.setIfInBounds_toArray, List.set_cons_zero, List.set_cons_succ]
      refine wpAnyH_take (i := 15) (oi := { dst := some 3, op := Go.Op.assign (Go.Operand.tmp 25), type := 23, pos := "ref.go:13", after := #[{ on := 14, ground := Go.Ground.data }, { on := 14, ground := Go.Ground.chain }, { on := 0, ground := Go.Ground.phase }, { on := 1, ground := Go.Ground.phase }, { on := 2, ground := Go.Ground.phase }, { on := 3, ground := Go.Ground.phase }, { on := 4, ground := Go.Ground.phase }, { on := 5, ground := Go.Ground.phase }, { on := 6, ground := Go.Ground.phase }, { on := 7, ground := Go.Ground.phase }, { on := 8, ground := Go.Ground.phase }, { on := 9, ground := Go.Ground.phase }, { on := 10, ground := Go.Ground.phase }, { on := 11, ground := Go.Ground.phase }, { on := 12, ground := Go.Ground.phase }, { on := 13, ground := Go.Ground.phase }, { on := 14, ground := Go.Ground.phase }], guard := none }) (v := ?a_6_12_13_14v15) rfl (by kernel_rfl) (by kernel_rfl) (by kernel_rfl) (fun _ _ _ h => h) (Or.inl ⟨by rfl, ?a_6_12_13_14y15⟩) (by assumption) ?a_6_12_13_14r15
      case a_6_12_13_14y15 => (intro w hSw; (try dsimp only at hSw); go_simp; try (with_reducible rfl))
      case a_6_12_13_14r15 =>
      try simp only [Act.put, List.setIfInBounds_toArray, List.set_cons_zero, List.set_cons_succ]
      refine wpAnyH_done (by kernel_rfl) ?_ _
      go_wp2
      refine ⟨⟨i + 1, by omega, by go_num, ?_, hb1⟩, by simp [intOf]; omega⟩
      rw [HS.out, List.length_append, List.map_append]
      exact HH.out
    · have hie : xs.take i = xs := List.take_of_length_le (by omega)
      rw [hie] at hown
      have hby := Byt.of_own hown
      obtain ⟨As, cs, rfl⟩ := own_form hown
      have hrs := run_string_of (P := Tryd.prog) wr 23 9 5 slice_u8 Tryd.underlying5 Tryd.underlying9 _ _ (digsOf xs) hby
      clear hown hby hie
      go_wp2
      go_ret
      exact ⟨rfl, hbel⟩
end Go.Proofs.YtgiljhdjknglpaaDoor

/-
  The reference's value: a hexadecimal digit's number. Conditions: none.
-/
namespace Go.Proofs.YtgiljhdjknglpaaDoor
open Go.RowKit

/-- Is it the k-th digit? -/
def hitB (c : UInt8) (k : Nat) : Bool := decide ((c.toNat : Int) = digI k) || (decide (9 < k) && decide ((c.toNat : Int) = digI k - 32))
/-- The digit's number, or -1. -/
def refVal (c : UInt8) : Int := match (List.range 16).find? (hitB c) with | some k => k | none => -1
theorem find_first {f : Nat → Bool} {n k : Nat} (hk : k < n) (hf : f k = true) (hall : ∀ j, j < k → f j = false) : (List.range n).find? f = some k := by
  rw [List.find?_range_eq_some]
  exact ⟨hf, by simpa using hk, fun j hj => by simpa using hall j hj⟩
theorem refVal_at {c : UInt8} {k : Nat} (hk : k < 16) (hf : hitB c k = true) (hall : ∀ j, j < k → hitB c j = false) : refVal c = k := by
  unfold refVal
  rw [find_first hk hf hall]
theorem refVal_no {c : UInt8} (hall : ∀ j, j < 16 → hitB c j = false) : refVal c = -1 := by
  unfold refVal
  have : (List.range 16).find? (hitB c) = none := by
    rw [List.find?_eq_none]
    intro j hj
    rw [hall j (by simpa using hj)]
    simp
  rw [this]

/-- The number, by the program's table of digits. -/
def valB (c : UInt8) : Int := let p := posB hexD c; if p < 0 then -1 else if 15 < p then p - 6 else p
theorem val_same_fin : ∀ c : Fin 256, refVal (UInt8.ofNat c.val) = valB (UInt8.ofNat c.val) := by decide +kernel
theorem val_same (c : UInt8) : refVal c = valB c := by
  have h := val_same_fin ⟨c.toNat, by have := c.toNat_lt; omega⟩
  simpa using h
theorem val_bd (c : UInt8) : -1 ≤ valB c ∧ valB c ≤ 15 := by
  have h : ∀ c : Fin 256, -1 ≤ valB (UInt8.ofNat c.val) ∧ valB (UInt8.ofNat c.val) ≤ 15 := by decide +kernel
  have h := h ⟨c.toNat, by have := c.toNat_lt; omega⟩
  simpa using h

end Go.Proofs.YtgiljhdjknglpaaDoor
