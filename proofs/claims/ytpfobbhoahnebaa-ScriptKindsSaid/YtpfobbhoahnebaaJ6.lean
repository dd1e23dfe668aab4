/-
  Texts joined: TSpare, TKept, SnLawP. Conditions: those of each.
-/
import Derived.Test.YtpfobbhoahnebaaJ3
import Derived.BigQuiet
import Derived.Deep.QuietTactic
import Derived.IntWalk
import Derived.Deep.RegionHeld
import Derived.OrdersHeld
import Derived.Test.YtpfobbhoahnebaaJ5
/-
  The references' Spare and Kept: a copy with tinted room behind it, and whether it is still as it was. Conditions: sizes within the reach.
-/
namespace Go.Proofs.Ytpfobbhoahnebaa
open Go.RowKit

/-- The bytes, and nine tinted ones behind them. -/
def tinted (bs : List UInt8) : List UInt8 := bs ++ (List.range 9).map fun k => b8 (201 + (bs.length + k : Nat))
theorem tinted_length (bs : List UInt8) : (tinted bs).length = bs.length + 9 := by simp [tinted]
theorem tinted_low {bs : List UInt8} {i : Nat} (h : i < bs.length) : (tinted bs)[i]? = bs[i]? := by
  unfold tinted
  rw [List.getElem?_append_left h]
theorem tinted_high {bs : List UInt8} {i : Nat} (h : bs.length ≤ i) (h2 : i < bs.length + 9) : (tinted bs)[i]? = some (b8 (201 + (i : Int))) := by
  unfold tinted
  rw [List.getElem?_append_right h, List.getElem?_map, List.getElem?_range (by omega)]
  simp
  congr 1
  omega

/-- Behind i rounds: the first i bytes are as they will be, the rest is zero. -/
def Fill (w : World) (g i : Nat) (bs : List UInt8) (wr : World) : Prop :=
  ∃ zs, zs = (tinted bs).take i ++ List.replicate (bs.length + 9 - i) 0 ∧ Row wr g zs ∧ Below w.heap.size w wr

theorem fill_next {w wr w' : World} {g i : Nat} {bs zs : List UInt8} {c : UInt8} (hi : i < bs.length + 9) (hc : (tinted bs)[i]? = some c) (hz : zs = (tinted bs).take i ++ List.replicate (bs.length + 9 - i) 0)
    (hr : Row w' g (zs.set i c)) (_hb : Below w.heap.size w wr) (hb' : Below w.heap.size w w') : Fill w g (i + 1) bs w' :=
  ⟨_, set_next (by rw [tinted_length]; exact hi) hc hz (by rw [tinted_length]), hr, hb'⟩

theorem fill_zero {bs zs : List UInt8} {i : Nat} (hi : i < bs.length + 9) (hz : zs = (tinted bs).take i ++ List.replicate (bs.length + 9 - i) 0) : zs[i]? = some 0 := by
  subst hz
  have hl : ((tinted bs).take i).length = i := by rw [List.length_take, tinted_length]; omega
  rw [List.getElem?_append_right (by omega), hl, Nat.sub_self]
  obtain ⟨m, hm⟩ : ∃ m, bs.length + 9 - i = m + 1 := ⟨bs.length + 9 - i - 1, by omega⟩
  rw [hm, List.replicate_succ]
  rfl

set_option maxHeartbeats 1600000 in
theorem spare_any (B : Nat) (x : Value) (bs : List UInt8) (w : World) (hx : Byt w B x bs) (hB : B ≤ w.heap.size) (hl : bs.length ≤ 60000000) :
    Calls Try.prog 11 #[x] w fun e w' => e = .returned (.tuple #[.slice (some ⟨w.heap.size, 0, none⟩) bs.length (bs.length + 9), .slice (some ⟨w.heap.size, 0, none⟩) (bs.length + 9) (bs.length + 9)]) ∧
      Row w' w.heap.size (tinted bs) ∧ Below w.heap.size w w' := by
  obtain ⟨A, c, hxf⟩ := hx.form
  subst hxf
  have hcap := hx.cap
  have hmk := fun W => make_bytes W (bs.length + 9) ((bs.length : Int) + 9) (by omega) (by omega)
  have hX := Lib.hid hx
  clear hx
  go_enter Try.func11, Try.ntmps11
  go_wp2_with fail
  clear hmk
  go_loopw [5] (fun s wr => ∃ i : Nat, i ≤ bs.length + 9 ∧ s = .int .i64 i ∧ Fill w w.heap.size i bs wr) (fun s _ => bs.length + 9 - (intOf s).toNat)
  case atStart => exact ⟨0, Nat.zero_le _, rfl, _, rfl, row_new w _, (Below.refl _ _).alloc (Nat.le_refl _) _⟩
  case round =>
    obtain ⟨i, hi, rfl, zs, hz, hrow, hbel⟩ := hrel
    by_cases hlt : i < bs.length + 9
    · have hcell : wr.cell? ⟨w.heap.size, i, none⟩ = some (.int .u8 0) := hrow.cell (fill_zero hlt hz)
      have hfree := hrow.free i
      by_cases hlow : i < bs.length
      · obtain ⟨A', c', e0, _, _, _, h4⟩ := hX.out
        injection e0 with e1 e2 e3
        subst e1 e3
        obtain ⟨b, o, rfl, hb, hbc⟩ := h4 (by rintro rfl; simp at hlow)
        have hci := hbc i _ (List.getElem?_eq_getElem hlow)
        obtain ⟨q, hq⟩ : ∃ q, q = bs[i] := ⟨_, rfl⟩
        rw [← hq] at hci
        have hbi : ∀ u, (wr.setCell ⟨w.heap.size, i, none⟩ u).cell? ⟨b, o + i, none⟩ = some (.int .u8 (q.toNat : Int)) := fun u =>
          (World.cell?_setCell_other _ _ _ _ (by intro e; injection e with e; omega)).trans ((hbel.cell (p := ⟨b, _, none⟩) (by show b < _; omega)).trans hci)
        have HQ := Lib.hid hq
        have HZ := Lib.hid hz
        have HR := Lib.hid hrow
        clear hq hz hrow hci hbc h4
        go_wp2
        refine ⟨⟨i + 1, by omega, by go_num, ?_⟩, ?_⟩
        · refine fill_next hlt (c := q) ?_ HZ.out ?_ hbel ((hbel.setCell (Nat.le_refl _) _).setCell (Nat.le_refl _) _)
          · rw [tinted_low hlow, HQ.out]; exact List.getElem?_eq_getElem hlow
          · have h1 := (HR.out.set (i := i) (b8 (201 + (i : Int)))).set (i := i) q
            rw [List.set_set, bv_b8] at h1
            exact h1
        · simp [intOf]; omega
      · have HZ := Lib.hid hz
        have HR := Lib.hid hrow
        clear hz hrow
        go_wp2
        refine ⟨⟨i + 1, by omega, by go_num, ?_⟩, ?_⟩
        · refine fill_next hlt (c := b8 (201 + (i : Int))) (tinted_high (by omega) hlt) HZ.out ?_ hbel (hbel.setCell (Nat.le_refl _) _)
          have h1 := HR.out.set (i := i) (b8 (201 + (i : Int)))
          rw [bv_b8] at h1
          exact h1
        · simp [intOf]; omega
    · go_wp2
      go_ret2
      have hie : i = bs.length + 9 := by omega
      subst hie
      rw [Nat.sub_self, List.replicate_zero, List.append_nil, List.take_of_length_le (Nat.le_of_eq (tinted_length bs))] at hz
      subst hz
      exact ⟨rfl, hrow, hbel⟩

end Go.Proofs.Ytpfobbhoahnebaa

/-
  The references' Kept: true, where the whole is as Spare made it. Conditions: sizes within the reach.
-/
namespace Go.Proofs.Ytpfobbhoahnebaa
open Go.RowKit

set_option maxHeartbeats 1600000 in
theorem kept_yes (B B' : Nat) (x y : Value) (bs : List UInt8) (w : World) (hx : Byt w B x (tinted bs)) (hy : Byt w B' y bs) (hl : bs.length ≤ 60000000) :
    Calls Try.prog 16 #[x, y] w fun e w' => e = .returned (.bool true) ∧ ∃ k, w' = w.drewN k := by
  obtain ⟨A, c, hxf⟩ := hx.form
  obtain ⟨A2, c2, hyf⟩ := hy.form
  subst hxf hyf
  have hcapx := hx.cap
  have hcapy := hy.cap
  rw [tinted_length] at hcapx hx ⊢
  have hX := Lib.hid hx
  have hY := Lib.hid hy
  clear hx hy
  go_enter Try.func16, Try.ntmps16
  go_wp2_with fail
  go_loopw [5] (fun s wr => ∃ i : Nat, i ≤ bs.length + 9 ∧ s = .int .i64 i ∧ ∃ k, wr = w.drewN k) (fun s _ => bs.length + 9 - (intOf s).toNat)
  case atStart => exact ⟨0, Nat.zero_le _, rfl, 0, rfl⟩
  case round =>
    obtain ⟨i, hi, rfl, k, rfl⟩ := hrel
    by_cases hlt : i < bs.length + 9
    · obtain ⟨A', c', e0, _, _, _, h4⟩ := hX.out
      have he0 := e0
      injection e0 with e1 e2 e3
      subst e1 e3
      obtain ⟨b, o, rfl, hb, hbc⟩ := h4 (by intro hn; have := tinted_length bs; rw [hn] at this; simp at this)
      by_cases hlow : i < bs.length
      · obtain ⟨A', c', e0, _, _, _, h4⟩ := hY.out
        injection e0 with e1 e2 e3
        subst e1 e3
        obtain ⟨b2, o2, rfl, hb2, hbc2⟩ := h4 (by rintro rfl; simp at hlow)
        have hci := hbc i _ ((tinted_low hlow).trans (List.getElem?_eq_getElem hlow))
        have hci2 := hbc2 i _ (List.getElem?_eq_getElem hlow)
        obtain ⟨q, hq⟩ : ∃ q, q = bs[i] := ⟨_, rfl⟩
        rw [← hq] at hci hci2
        replace hci : w.cell? ⟨b, o + i, none⟩ = some (.int .u8 (q.toNat : Int)) := hci
        replace hci2 : w.cell? ⟨b2, o2 + i, none⟩ = some (.int .u8 (q.toNat : Int)) := hci2
        have hd3 : ((q.toNat : Int) != (q.toNat : Int)) = false := by simp
        clear hbc hbc2 h4 hq
        have hd : decide (i < bs.length) = true := by simpa using hlow
        obtain ⟨W, hW⟩ : ∃ W, W = w.drewN k := ⟨_, rfl⟩
        have hc1 : W.drew.cell? ⟨b, o + i, none⟩ = some (.int .u8 (q.toNat : Int)) := by rw [hW]; exact hci
        have hc2 : W.drew.cell? ⟨b2, o2 + i, none⟩ = some (.int .u8 (q.toNat : Int)) := by rw [hW]; exact hci2
        have HW := Lib.hid hW
        rw [← hW]
        clear e2 he0 hX hY hci hci2 hW
        go_wp2_with fail
        refine wp_region_held_drew (S := (fun w' => w'.cell? ⟨b, o + i, none⟩ = some (.int .u8 (q.toNat : Int)) ∧ w'.cell? ⟨b2, o2 + i, none⟩ = some (.int .u8 (q.toNat : Int)))) (by kernel_rfl) ?_ (fun hHeld => ?_)
        · exact ⟨hc1, hc2⟩
        refine wpAnyH_take (i := 0) (oi := { dst := some 18, op := Go.Op.move (Go.Operand.tmp 5), type := 3, pos := "ref.go:185", after := #[], guard := none }) (v := ?av0) rfl (by kernel_rfl) (by kernel_rfl) (by kernel_rfl) (fun _ _ _ h => h) (Or.inl ⟨by rfl, ?ay0⟩) (by assumption) ?ar0
        case ay0 => (intro w hSw; (try dsimp only at hSw); go_simp; try (with_reducible rfl))
        case ar0 =>
        try simp only [Act.put, List.setIfInBounds_toArray, List.set_cons_zero, List.set_cons_succ]
        refine wpAnyH_take (i := 1) (oi := { dst := some 19, op := Go.Op.move (Go.Operand.tmp 1), type := 22, pos := "ref.go:185", after := #[], guard := none }) (v := ?av1) rfl (by kernel_rfl) (by kernel_rfl) (by kernel_rfl) (fun _ _ _ h => h) (Or.inl ⟨by rfl, ?ay1⟩) (by assumption) ?ar1
        case ay1 => (intro w hSw; (try dsimp only at hSw); go_simp; try (with_reducible rfl))
        case ar1 =>
        try simp only [Act.put, List.setIfInBounds_toArray, List.set_cons_zero, List.set_cons_succ]
        refine wpAnyH_take (i := 2) (oi := { dst := some 20, op := Go.Op.call { callee := Go.Callee.builtin Go.Builtin.len, args := #[Go.Operand.tmp 19], argTypes := #[22] }, type := 3, pos := "ref.go:185", after := #[{ on := 1, ground := Go.Ground.data }], guard := none }) (v := ?av2) rfl (by kernel_rfl) (by kernel_rfl) (by kernel_rfl) (fun _ _ _ h => h) (Or.inl ⟨by rfl, ?ay2⟩) (by assumption) ?ar2
        case ay2 => (intro w hSw; (try dsimp only at hSw); go_simp; try (with_reducible rfl))
        case ar2 =>
        try simp only [Act.put, List.setIfInBounds_toArray, List.set_cons_zero, List.set_cons_succ]
        refine wpAnyH_take (i := 3) (oi := { dst := some 21, op := Go.Op.binOp Go.BinOp.lss 3 (Go.Operand.tmp 18) (Go.Operand.tmp 20) 3, type := 4, pos := "ref.go:185", after := #[{ on := 0, ground := Go.Ground.data }, { on := 2, ground := Go.Ground.data }], guard := none }) (v := (.bool true)) rfl (by kernel_rfl) (by kernel_rfl) (by kernel_rfl) (fun _ _ _ h => h) (Or.inl ⟨by rfl, ?ay3⟩) (by assumption) ?ar3
        case ay3 => (intro w hSw; (try dsimp only at hSw); go_simp; try (simp [hlow]))
        case ar3 =>
        try simp only [Act.put, List.setIfInBounds_toArray, List.set_cons_zero, List.set_cons_succ]
        refine wpAnyH_take (i := 4) (oi := { dst := some 22, op := Go.Op.move (Go.Operand.tmp 21), type := 4, pos := "ref.go:185", after := #[{ on := 3, ground := Go.Ground.data }], guard := none }) (v := ?av4) rfl (by kernel_rfl) (by kernel_rfl) (by kernel_rfl) (fun _ _ _ h => h) (Or.inl ⟨by rfl, ?ay4⟩) (by assumption) ?ar4
        case ay4 => (intro w hSw; (try dsimp only at hSw); go_simp; try (with_reducible rfl))
        case ar4 =>
        try simp only [Act.put, List.setIfInBounds_toArray, List.set_cons_zero, List.set_cons_succ]
        refine wpAnyH_take (i := 5) (oi := { dst := some 23, op := Go.Op.move (Go.Operand.tmp 0), type := 22, pos := "ref.go:185", after := #[{ on := 4, ground := Go.Ground.guard }], guard := some (4, true) }) (v := ?av5) rfl (by kernel_rfl) (by kernel_rfl) (by kernel_rfl) (fun _ _ _ h => h) (Or.inl ⟨by rfl, ?ay5⟩) (by assumption) ?ar5
        case ay5 => (intro w hSw; (try dsimp only at hSw); go_simp; try (with_reducible rfl))
        case ar5 =>
        try simp only [Act.put, List.setIfInBounds_toArray, List.set_cons_zero, List.set_cons_succ]
        refine wpAnyH_take (i := 6) (oi := { dst := some 24, op := Go.Op.move (Go.Operand.tmp 5), type := 3, pos := "ref.go:185", after := #[{ on := 4, ground := Go.Ground.guard }], guard := some (4, true) }) (v := ?av6) rfl (by kernel_rfl) (by kernel_rfl) (by kernel_rfl) (fun _ _ _ h => h) (Or.inl ⟨by rfl, ?ay6⟩) (by assumption) ?ar6
        case ay6 => (intro w hSw; (try dsimp only at hSw); go_simp; try (with_reducible rfl))
        case ar6 =>
        try simp only [Act.put, List.setIfInBounds_toArray, List.set_cons_zero, List.set_cons_succ]
        refine wpAnyH_take (i := 7) (oi := { dst := some 25, op := Go.Op.indexAddr 22 (Go.Operand.tmp 23) (Go.Operand.tmp 24), type := 0, pos := "ref.go:185", after := #[{ on := 5, ground := Go.Ground.data }, { on := 6, ground := Go.Ground.data }, { on := 4, ground := Go.Ground.guard }], guard := some (4, true) }) (v := ?av7) rfl (by kernel_rfl) (by kernel_rfl) (by kernel_rfl) (fun _ _ _ h => h) (Or.inl ⟨by rfl, ?ay7⟩) (by assumption) ?ar7
        case ay7 => (intro w hSw; (try dsimp only at hSw); go_simp; try (with_reducible rfl))
        case ar7 =>
        try simp only [Act.put, List.setIfInBounds_toArray, List.set_cons_zero, List.set_cons_succ]
        refine wpAnyH_take (i := 8) (oi := { dst := some 26, op := Go.Op.load 5 (Go.Operand.tmp 25), type := 5, pos := "ref.go:185", after := #[{ on := 7, ground := Go.Ground.data }, { on := 4, ground := Go.Ground.guard }], guard := some (4, true) }) (v := ?av8) rfl (by kernel_rfl) (by kernel_rfl) (by kernel_rfl) (fun _ _ _ h => h) (Or.inl ⟨by rfl, ?ay8⟩) (by assumption) ?ar8
        case ay8 => (intro w hSw; (try dsimp only at hSw); go_simp; try (with_reducible rfl))
        case ar8 =>
        try simp only [Act.put, List.setIfInBounds_toArray, List.set_cons_zero, List.set_cons_succ]
        refine wpAnyH_take (i := 9) (oi := { dst := some 27, op := Go.Op.move (Go.Operand.tmp 1), type := 22, pos := "ref.go:185", after := #[{ on := 4, ground := Go.Ground.guard }], guard := some (4, true) }) (v := ?av9) rfl (by kernel_rfl) (by kernel_rfl) (by kernel_rfl) (fun _ _ _ h => h) (Or.inl ⟨by rfl, ?ay9⟩) (by assumption) ?ar9
        case ay9 => (intro w hSw; (try dsimp only at hSw); go_simp; try (with_reducible rfl))
        case ar9 =>
        try simp only [Act.put, List.setIfInBounds_toArray, List.set_cons_zero, List.set_cons_succ]
        refine wpAnyH_take (i := 10) (oi := { dst := some 28, op := Go.Op.move (Go.Operand.tmp 5), type := 3, pos := "ref.go:185", after := #[{ on := 4, ground := Go.Ground.guard }], guard := some (4, true) }) (v := ?av10) rfl (by kernel_rfl) (by kernel_rfl) (by kernel_rfl) (fun _ _ _ h => h) (Or.inl ⟨by rfl, ?ay10⟩) (by assumption) ?ar10
        case ay10 => (intro w hSw; (try dsimp only at hSw); go_simp; try (with_reducible rfl))
        case ar10 =>
        try simp only [Act.put, List.setIfInBounds_toArray, List.set_cons_zero, List.set_cons_succ]
        refine wpAnyH_take (i := 11) (oi := { dst := some 29, op := Go.Op.indexAddr 22 (Go.Operand.tmp 27) (Go.Operand.tmp 28), type := 0, pos := "ref.go:185", after := #[{ on := 9, ground := Go.Ground.data }, { on := 10, ground := Go.Ground.data }, { on := 4, ground := Go.Ground.guard }], guard := some (4, true) }) (v := ?av11) rfl (by kernel_rfl) (by kernel_rfl) (by kernel_rfl) (fun _ _ _ h => h) (Or.inl ⟨by rfl, ?ay11⟩) (by assumption) ?ar11
        case ay11 => (intro w hSw; (try dsimp only at hSw); go_simp; try (with_reducible rfl))
        case ar11 =>
        try simp only [Act.put, List.setIfInBounds_toArray, List.set_cons_zero, List.set_cons_succ]
        refine wpAnyH_take (i := 12) (oi := { dst := some 30, op := Go.Op.load 5 (Go.Operand.tmp 29), type := 5, pos := "ref.go:185", after := #[{ on := 11, ground := Go.Ground.data }, { on := 4, ground := Go.Ground.guard }], guard := some (4, true) }) (v := ?av12) rfl (by kernel_rfl) (by kernel_rfl) (by kernel_rfl) (fun _ _ _ h => h) (Or.inl ⟨by rfl, ?ay12⟩) (by assumption) ?ar12
        case ay12 => (intro w hSw; (try dsimp only at hSw); go_simp; try (with_reducible rfl))
        case ar12 =>
        try simp only [Act.put, List.setIfInBounds_toArray, List.set_cons_zero, List.set_cons_succ]
        refine wpAnyH_take (i := 13) (oi := { dst := some 31, op := Go.Op.binOp Go.BinOp.neq 5 (Go.Operand.tmp 26) (Go.Operand.tmp 30) 5, type := 4, pos := "ref.go:185", after := #[{ on := 8, ground := Go.Ground.data }, { on := 12, ground := Go.Ground.data }, { on := 4, ground := Go.Ground.guard }], guard := some (4, true) }) (v := ?av13) rfl (by kernel_rfl) (by kernel_rfl) (by kernel_rfl) (fun _ _ _ h => h) (Or.inl ⟨by rfl, ?ay13⟩) (by assumption) ?ar13
        case ay13 => (intro w hSw; (try dsimp only at hSw); go_simp; try (with_reducible rfl))
        case ar13 =>
        try simp only [Act.put, List.setIfInBounds_toArray, List.set_cons_zero, List.set_cons_succ]
        refine wpAnyH_take (i := 14) (oi := { dst := some 32, op := Go.Op.pick (Go.Operand.tmp 22) (Go.Operand.tmp 31) (Go.Operand.const (Go.Value.bool false)), type := 4, pos := "ref.go:185", after := #[{ on := 4, ground := Go.Ground.data }, { on := 13, ground := Go.Ground.data }], guard := none }) (v := ?av14) rfl (by kernel_rfl) (by kernel_rfl) (by kernel_rfl) (fun _ _ _ h => h) (Or.inl ⟨by rfl, ?ay14⟩) (by assumption) ?ar14
        case ay14 => (intro w hSw; (try dsimp only at hSw); go_simp; try (with_reducible rfl))
        case ar14 =>
        try simp only [Act.put, List.setIfInBounds_toArray, List.set_cons_zero, List.set_cons_succ]
        refine wpAnyH_take (i := 15) (oi := { dst := some 33, op := Go.Op.move (Go.Operand.tmp 32), type := 4, pos := "ref.go:185", after := #[{ on := 14, ground := Go.Ground.data }, { on := 4, ground := Go.Ground.chain }], guard := none }) (v := ?av15) rfl (by kernel_rfl) (by kernel_rfl) (by kernel_rfl) (fun _ _ _ h => h) (Or.inl ⟨by rfl, ?ay15⟩) (by assumption) ?ar15
        case ay15 => (intro w hSw; (try dsimp only at hSw); go_simp; try (with_reducible rfl))
        case ar15 =>
        try simp only [Act.put, List.setIfInBounds_toArray, List.set_cons_zero, List.set_cons_succ]
        refine wpAnyH_take (i := 16) (oi := { dst := some 34, op := Go.Op.move (Go.Operand.tmp 5), type := 3, pos := "ref.go:185", after := #[{ on := 15, ground := Go.Ground.guard }], guard := some (15, false) }) (v := ?av16) rfl (by kernel_rfl) (by kernel_rfl) (by kernel_rfl) (fun _ _ _ h => h) (Or.inl ⟨by rfl, ?ay16⟩) (by assumption) ?ar16
        case ay16 => (intro w hSw; (try dsimp only at hSw); go_simp; try (with_reducible rfl))
        case ar16 =>
        try simp only [Act.put, List.setIfInBounds_toArray, List.set_cons_zero, List.set_cons_succ]
        refine wpAnyH_take (i := 17) (oi := { dst := some 35, op := Go.Op.move (Go.Operand.tmp 1), type := 22, pos := "ref.go:185", after := #[{ on := 15, ground := Go.Ground.guard }], guard := some (15, false) }) (v := ?av17) rfl (by kernel_rfl) (by kernel_rfl) (by kernel_rfl) (fun _ _ _ h => h) (Or.inl ⟨by rfl, ?ay17⟩) (by assumption) ?ar17
        case ay17 => (intro w hSw; (try dsimp only at hSw); go_simp; try (with_reducible rfl))
        case ar17 =>
        try simp only [Act.put, List.setIfInBounds_toArray, List.set_cons_zero, List.set_cons_succ]
        refine wpAnyH_take (i := 18) (oi := { dst := some 36, op := Go.Op.call { callee := Go.Callee.builtin Go.Builtin.len, args := #[Go.Operand.tmp 35], argTypes := #[22] }, type := 3, pos := "ref.go:185", after := #[{ on := 17, ground := Go.Ground.data }, { on := 15, ground := Go.Ground.guard }], guard := some (15, false) }) (v := ?av18) rfl (by kernel_rfl) (by kernel_rfl) (by kernel_rfl) (fun _ _ _ h => h) (Or.inl ⟨by rfl, ?ay18⟩) (by assumption) ?ar18
        case ay18 => (intro w hSw; (try dsimp only at hSw); go_simp; try (with_reducible rfl))
        case ar18 =>
        try simp only [Act.put, List.setIfInBounds_toArray, List.set_cons_zero, List.set_cons_succ]
        refine wpAnyH_take (i := 19) (oi := { dst := some 37, op := Go.Op.binOp Go.BinOp.geq 3 (Go.Operand.tmp 34) (Go.Operand.tmp 36) 3, type := 4, pos := "ref.go:185", after := #[{ on := 16, ground := Go.Ground.data }, { on := 18, ground := Go.Ground.data }, { on := 15, ground := Go.Ground.guard }], guard := some (15, false) }) (v := (.bool false)) rfl (by kernel_rfl) (by kernel_rfl) (by kernel_rfl) (fun _ _ _ h => h) (Or.inl ⟨by rfl, ?ay19⟩) (by assumption) ?ar19
        case ay19 => (intro w hSw; (try dsimp only at hSw); go_simp; try (simp [hlow]))
        case ar19 =>
        try simp only [Act.put, List.setIfInBounds_toArray, List.set_cons_zero, List.set_cons_succ]
        refine wpAnyH_take (i := 20) (oi := { dst := some 38, op := Go.Op.move (Go.Operand.tmp 37), type := 4, pos := "ref.go:185", after := #[{ on := 19, ground := Go.Ground.data }, { on := 15, ground := Go.Ground.chain }, { on := 15, ground := Go.Ground.guard }], guard := some (15, false) }) (v := ?av20) rfl (by kernel_rfl) (by kernel_rfl) (by kernel_rfl) (fun _ _ _ h => h) (Or.inl ⟨by rfl, ?ay20⟩) (by assumption) ?ar20
        case ay20 => (intro w hSw; (try dsimp only at hSw); go_simp; try (with_reducible rfl))
        case ar20 =>
        try simp only [Act.put, List.setIfInBounds_toArray, List.set_cons_zero, List.set_cons_succ]
        refine wpAnyH_take (i := 21) (oi := { dst := some 39, op := Go.Op.move (Go.Operand.tmp 0), type := 22, pos := "ref.go:185", after := #[{ on := 20, ground := Go.Ground.guard }], guard := some (20, true) }) (v := undef) rfl (by kernel_rfl) (by kernel_rfl) (by kernel_rfl) (fun _ _ _ h => h) (Or.inr ⟨by rfl, rfl⟩) (by assumption) ?_
        try simp only [Act.put, List.setIfInBounds_toArray, List.set_cons_zero, List.set_cons_succ]
        refine wpAnyH_take (i := 22) (oi := { dst := some 40, op := Go.Op.move (Go.Operand.tmp 5), type := 3, pos := "ref.go:185", after := #[{ on := 20, ground := Go.Ground.guard }], guard := some (20, true) }) (v := undef) rfl (by kernel_rfl) (by kernel_rfl) (by kernel_rfl) (fun _ _ _ h => h) (Or.inr ⟨by rfl, rfl⟩) (by assumption) ?_
        try simp only [Act.put, List.setIfInBounds_toArray, List.set_cons_zero, List.set_cons_succ]
        refine wpAnyH_take (i := 23) (oi := { dst := some 41, op := Go.Op.indexAddr 22 (Go.Operand.tmp 39) (Go.Operand.tmp 40), type := 0, pos := "ref.go:185", after := #[{ on := 21, ground := Go.Ground.data }, { on := 22, ground := Go.Ground.data }, { on := 20, ground := Go.Ground.guard }], guard := some (20, true) }) (v := undef) rfl (by kernel_rfl) (by kernel_rfl) (by kernel_rfl) (fun _ _ _ h => h) (Or.inr ⟨by rfl, rfl⟩) (by assumption) ?_
        try simp only [Act.put, List.setIfInBounds_toArray, List.set_cons_zero, List.set_cons_succ]
        refine wpAnyH_take (i := 24) (oi := { dst := some 42, op := Go.Op.load 5 (Go.Operand.tmp 41), type := 5, pos := "ref.go:185", after := #[{ on := 23, ground := Go.Ground.data }, { on := 20, ground := Go.Ground.guard }], guard := some (20, true) }) (v := undef) rfl (by kernel_rfl) (by kernel_rfl) (by kernel_rfl) (fun _ _ _ h => h) (Or.inr ⟨by rfl, rfl⟩) (by assumption) ?_
        try simp only [Act.put, List.setIfInBounds_toArray, List.set_cons_zero, List.set_cons_succ]
        refine wpAnyH_take (i := 25) (oi := { dst := some 43, op := Go.Op.move (Go.Operand.tmp 5), type := 3, pos := "ref.go:185", after := #[{ on := 20, ground := Go.Ground.guard }], guard := some (20, true) }) (v := undef) rfl (by kernel_rfl) (by kernel_rfl) (by kernel_rfl) (fun _ _ _ h => h) (Or.inr ⟨by rfl, rfl⟩) (by assumption) ?_
        try simp only [Act.put, List.setIfInBounds_toArray, List.set_cons_zero, List.set_cons_succ]
        refine wpAnyH_take (i := 26) (oi := { dst := some 44, op := Go.Op.binOp Go.BinOp.add 3 (Go.Operand.const (Go.Value.int Go.IntKind.i64 201)) (Go.Operand.tmp 43) 3, type := 3, pos := "ref.go:185", after := #[{ on := 25, ground := Go.Ground.data }, { on := 20, ground := Go.Ground.guard }], guard := some (20, true) }) (v := undef) rfl (by kernel_rfl) (by kernel_rfl) (by kernel_rfl) (fun _ _ _ h => h) (Or.inr ⟨by rfl, rfl⟩) (by assumption) ?_
        try simp only [Act.put, List.setIfInBounds_toArray, List.set_cons_zero, List.set_cons_succ]
        refine wpAnyH_take (i := 27) (oi := { dst := some 45, op := Go.Op.convert 3 5 (Go.Operand.tmp 44), type := 5, pos := "ref.go:185", after := #[{ on := 26, ground := Go.Ground.data }, { on := 20, ground := Go.Ground.guard }], guard := some (20, true) }) (v := undef) rfl (by kernel_rfl) (by kernel_rfl) (by kernel_rfl) (fun _ _ _ h => h) (Or.inr ⟨by rfl, rfl⟩) (by assumption) ?_
        try simp only [Act.put, List.setIfInBounds_toArray, List.set_cons_zero, List.set_cons_succ]
        refine wpAnyH_take (i := 28) (oi := { dst := some 46, op := Go.Op.binOp Go.BinOp.neq 5 (Go.Operand.tmp 42) (Go.Operand.tmp 45) 5, type := 4, pos := "ref.go:185", after := #[{ on := 24, ground := Go.Ground.data }, { on := 27, ground := Go.Ground.data }, { on := 20, ground := Go.Ground.guard }], guard := some (20, true) }) (v := undef) rfl (by kernel_rfl) (by kernel_rfl) (by kernel_rfl) (fun _ _ _ h => h) (Or.inr ⟨by rfl, rfl⟩) (by assumption) ?_
        try simp only [Act.put, List.setIfInBounds_toArray, List.set_cons_zero, List.set_cons_succ]
        refine wpAnyH_take (i := 29) (oi := { dst := some 47, op := Go.Op.pick (Go.Operand.tmp 38) (Go.Operand.tmp 46) (Go.Operand.const (Go.Value.bool false)), type := 4, pos := "ref.go:185", after := #[{ on := 20, ground := Go.Ground.data }, { on := 28, ground := Go.Ground.data }, { on := 15, ground := Go.Ground.guard }], guard := some (15, false) }) (v := ?av29) rfl (by kernel_rfl) (by kernel_rfl) (by kernel_rfl) (fun _ _ _ h => h) (Or.inl ⟨by rfl, ?ay29⟩) (by assumption) ?ar29
        case ay29 => (intro w hSw; (try dsimp only at hSw); go_simp; try (with_reducible rfl))
        case ar29 =>
        try simp only [Act.put, List.setIfInBounds_toArray, List.set_cons_zero, List.set_cons_succ]
        refine wpAnyH_take (i := 30) (oi := { dst := some 48, op := Go.Op.pick (Go.Operand.tmp 33) (Go.Operand.const (Go.Value.bool true)) (Go.Operand.tmp 47), type := 4, pos := "ref.go:185", after := #[{ on := 15, ground := Go.Ground.data }, { on := 29, ground := Go.Ground.data }], guard := none }) (v := ?av30) rfl (by kernel_rfl) (by kernel_rfl) (by kernel_rfl) (fun _ _ _ h => h) (Or.inl ⟨by rfl, ?ay30⟩) (by assumption) ?ar30
        case ay30 => (intro w hSw; (try dsimp only at hSw); go_simp; try (with_reducible rfl))
        case ar30 =>
        try simp only [Act.put, List.setIfInBounds_toArray, List.set_cons_zero, List.set_cons_succ]
        refine wpAnyH_done (by kernel_rfl) ?_ _
        go_wp2
        exact ⟨⟨i + 1, by omega, by go_num, k + 1, by rw [HW.out]; rfl⟩, by simp [intOf]; omega⟩
      · have hci := hbc i _ (tinted_high (by omega) hlt)
        rw [bv_b8] at hci
        clear hbc h4
        have hs1 : IntKind.i64.wrap (201 + (i : Int)) = 201 + (i : Int) := IntWalk.i64_in _ (by omega)
        have hs2 : IntKind.u8.wrap (201 + (i : Int)) = (201 + (i : Int)) % 256 := IntKind.wrap_u8 _
        obtain ⟨m, hm⟩ : ∃ m, m = (201 + (i : Int)) % 256 := ⟨_, rfl⟩
        rw [← hm] at hci hs2
        obtain ⟨W, hW⟩ : ∃ W, W = w.drewN k := ⟨_, rfl⟩
        have hc1 : W.drew.cell? ⟨b, o + i, none⟩ = some (.int .u8 m) := by rw [hW]; exact hci
        have HW := Lib.hid hW
        rw [← hW]
        clear e2 he0 hX hY hci hW hm
        go_wp2_with fail
        refine wp_region_held_drew (S := (fun w' => w'.cell? ⟨b, o + i, none⟩ = some (.int .u8 m))) (by kernel_rfl) ?_ (fun hHeld => ?_)
        · exact hc1
        refine wpAnyH_take (i := 0) (oi := { dst := some 18, op := Go.Op.move (Go.Operand.tmp 5), type := 3, pos := "ref.go:185", after := #[], guard := none }) (v := ?bv0) rfl (by kernel_rfl) (by kernel_rfl) (by kernel_rfl) (fun _ _ _ h => h) (Or.inl ⟨by rfl, ?by0⟩) (by assumption) ?br0
        case by0 => (intro w hSw; (try dsimp only at hSw); go_simp; try (with_reducible rfl))
        case br0 =>
        try simp only [Act.put, List.setIfInBounds_toArray, List.set_cons_zero, List.set_cons_succ]
        refine wpAnyH_take (i := 1) (oi := { dst := some 19, op := Go.Op.move (Go.Operand.tmp 1), type := 22, pos := "ref.go:185", after := #[], guard := none }) (v := ?bv1) rfl (by kernel_rfl) (by kernel_rfl) (by kernel_rfl) (fun _ _ _ h => h) (Or.inl ⟨by rfl, ?by1⟩) (by assumption) ?br1
        case by1 => (intro w hSw; (try dsimp only at hSw); go_simp; try (with_reducible rfl))
        case br1 =>
        try simp only [Act.put, List.setIfInBounds_toArray, List.set_cons_zero, List.set_cons_succ]
        refine wpAnyH_take (i := 2) (oi := { dst := some 20, op := Go.Op.call { callee := Go.Callee.builtin Go.Builtin.len, args := #[Go.Operand.tmp 19], argTypes := #[22] }, type := 3, pos := "ref.go:185", after := #[{ on := 1, ground := Go.Ground.data }], guard := none }) (v := ?bv2) rfl (by kernel_rfl) (by kernel_rfl) (by kernel_rfl) (fun _ _ _ h => h) (Or.inl ⟨by rfl, ?by2⟩) (by assumption) ?br2
        case by2 => (intro w hSw; (try dsimp only at hSw); go_simp; try (with_reducible rfl))
        case br2 =>
        try simp only [Act.put, List.setIfInBounds_toArray, List.set_cons_zero, List.set_cons_succ]
        refine wpAnyH_take (i := 3) (oi := { dst := some 21, op := Go.Op.binOp Go.BinOp.lss 3 (Go.Operand.tmp 18) (Go.Operand.tmp 20) 3, type := 4, pos := "ref.go:185", after := #[{ on := 0, ground := Go.Ground.data }, { on := 2, ground := Go.Ground.data }], guard := none }) (v := (.bool false)) rfl (by kernel_rfl) (by kernel_rfl) (by kernel_rfl) (fun _ _ _ h => h) (Or.inl ⟨by rfl, ?by3⟩) (by assumption) ?br3
        case by3 => (intro w hSw; (try dsimp only at hSw); go_simp; try (simp [hlow]))
        case br3 =>
        try simp only [Act.put, List.setIfInBounds_toArray, List.set_cons_zero, List.set_cons_succ]
        refine wpAnyH_take (i := 4) (oi := { dst := some 22, op := Go.Op.move (Go.Operand.tmp 21), type := 4, pos := "ref.go:185", after := #[{ on := 3, ground := Go.Ground.data }], guard := none }) (v := ?bv4) rfl (by kernel_rfl) (by kernel_rfl) (by kernel_rfl) (fun _ _ _ h => h) (Or.inl ⟨by rfl, ?by4⟩) (by assumption) ?br4
        case by4 => (intro w hSw; (try dsimp only at hSw); go_simp; try (with_reducible rfl))
        case br4 =>
        try simp only [Act.put, List.setIfInBounds_toArray, List.set_cons_zero, List.set_cons_succ]
        refine wpAnyH_take (i := 5) (oi := { dst := some 23, op := Go.Op.move (Go.Operand.tmp 0), type := 22, pos := "ref.go:185", after := #[{ on := 4, ground := Go.Ground.guard }], guard := some (4, true) }) (v := undef) rfl (by kernel_rfl) (by kernel_rfl) (by kernel_rfl) (fun _ _ _ h => h) (Or.inr ⟨by rfl, rfl⟩) (by assumption) ?_
        try simp only [Act.put, List.setIfInBounds_toArray, List.set_cons_zero, List.set_cons_succ]
        refine wpAnyH_take (i := 6) (oi := { dst := some 24, op := Go.Op.move (Go.Operand.tmp 5), type := 3, pos := "ref.go:185", after := #[{ on := 4, ground := Go.Ground.guard }], guard := some (4, true) }) (v := undef) rfl (by kernel_rfl) (by kernel_rfl) (by kernel_rfl) (fun _ _ _ h => h) (Or.inr ⟨by rfl, rfl⟩) (by assumption) ?_
        try simp only [Act.put, List.setIfInBounds_toArray, List.set_cons_zero, List.set_cons_succ]
        refine wpAnyH_take (i := 7) (oi := { dst := some 25, op := Go.Op.indexAddr 22 (Go.Operand.tmp 23) (Go.Operand.tmp 24), type := 0, pos := "ref.go:185", after := #[{ on := 5, ground := Go.Ground.data }, { on := 6, ground := Go.Ground.data }, { on := 4, ground := Go.Ground.guard }], guard := some (4, true) }) (v := undef) rfl (by kernel_rfl) (by kernel_rfl) (by kernel_rfl) (fun _ _ _ h => h) (Or.inr ⟨by rfl, rfl⟩) (by assumption) ?_
        try simp only [Act.put, List.setIfInBounds_toArray, List.set_cons_zero, List.set_cons_succ]
        refine wpAnyH_take (i := 8) (oi := { dst := some 26, op := Go.Op.load 5 (Go.Operand.tmp 25), type := 5, pos := "ref.go:185", after := #[{ on := 7, ground := Go.Ground.data }, { on := 4, ground := Go.Ground.guard }], guard := some (4, true) }) (v := undef) rfl (by kernel_rfl) (by kernel_rfl) (by kernel_rfl) (fun _ _ _ h => h) (Or.inr ⟨by rfl, rfl⟩) (by assumption) ?_
        try simp only [Act.put, List.setIfInBounds_toArray, List.set_cons_zero, List.set_cons_succ]
        refine wpAnyH_take (i := 9) (oi := { dst := some 27, op := Go.Op.move (Go.Operand.tmp 1), type := 22, pos := "ref.go:185", after := #[{ on := 4, ground := Go.Ground.guard }], guard := some (4, true) }) (v := undef) rfl (by kernel_rfl) (by kernel_rfl) (by kernel_rfl) (fun _ _ _ h => h) (Or.inr ⟨by rfl, rfl⟩) (by assumption) ?_
        try simp only [Act.put, List.setIfInBounds_toArray, List.set_cons_zero, List.set_cons_succ]
        refine wpAnyH_take (i := 10) (oi := { dst := some 28, op := Go.Op.move (Go.Operand.tmp 5), type := 3, pos := "ref.go:185", after := #[{ on := 4, ground := Go.Ground.guard }], guard := some (4, true) }) (v := undef) rfl (by kernel_rfl) (by kernel_rfl) (by kernel_rfl) (fun _ _ _ h => h) (Or.inr ⟨by rfl, rfl⟩) (by assumption) ?_
        try simp only [Act.put, List.setIfInBounds_toArray, List.set_cons_zero, List.set_cons_succ]
        refine wpAnyH_take (i := 11) (oi := { dst := some 29, op := Go.Op.indexAddr 22 (Go.Operand.tmp 27) (Go.Operand.tmp 28), type := 0, pos := "ref.go:185", after := #[{ on := 9, ground := Go.Ground.data }, { on := 10, ground := Go.Ground.data }, { on := 4, ground := Go.Ground.guard }], guard := some (4, true) }) (v := undef) rfl (by kernel_rfl) (by kernel_rfl) (by kernel_rfl) (fun _ _ _ h => h) (Or.inr ⟨by rfl, rfl⟩) (by assumption) ?_
        try simp only [Act.put, List.setIfInBounds_toArray, List.set_cons_zero, List.set_cons_succ]
        refine wpAnyH_take (i := 12) (oi := { dst := some 30, op := Go.Op.load 5 (Go.Operand.tmp 29), type := 5, pos := "ref.go:185", after := #[{ on := 11, ground := Go.Ground.data }, { on := 4, ground := Go.Ground.guard }], guard := some (4, true) }) (v := undef) rfl (by kernel_rfl) (by kernel_rfl) (by kernel_rfl) (fun _ _ _ h => h) (Or.inr ⟨by rfl, rfl⟩) (by assumption) ?_
        try simp only [Act.put, List.setIfInBounds_toArray, List.set_cons_zero, List.set_cons_succ]
        refine wpAnyH_take (i := 13) (oi := { dst := some 31, op := Go.Op.binOp Go.BinOp.neq 5 (Go.Operand.tmp 26) (Go.Operand.tmp 30) 5, type := 4, pos := "ref.go:185", after := #[{ on := 8, ground := Go.Ground.data }, { on := 12, ground := Go.Ground.data }, { on := 4, ground := Go.Ground.guard }], guard := some (4, true) }) (v := undef) rfl (by kernel_rfl) (by kernel_rfl) (by kernel_rfl) (fun _ _ _ h => h) (Or.inr ⟨by rfl, rfl⟩) (by assumption) ?_
        try simp only [Act.put, List.setIfInBounds_toArray, List.set_cons_zero, List.set_cons_succ]
        refine wpAnyH_take (i := 14) (oi := { dst := some 32, op := Go.Op.pick (Go.Operand.tmp 22) (Go.Operand.tmp 31) (Go.Operand.const (Go.Value.bool false)), type := 4, pos := "ref.go:185", after := #[{ on := 4, ground := Go.Ground.data }, { on := 13, ground := Go.Ground.data }], guard := none }) (v := ?bv14) rfl (by kernel_rfl) (by kernel_rfl) (by kernel_rfl) (fun _ _ _ h => h) (Or.inl ⟨by rfl, ?by14⟩) (by assumption) ?br14
        case by14 => (intro w hSw; (try dsimp only at hSw); go_simp; try (with_reducible rfl))
        case br14 =>
        try simp only [Act.put, List.setIfInBounds_toArray, List.set_cons_zero, List.set_cons_succ]
        refine wpAnyH_take (i := 15) (oi := { dst := some 33, op := Go.Op.move (Go.Operand.tmp 32), type := 4, pos := "ref.go:185", after := #[{ on := 14, ground := Go.Ground.data }, { on := 4, ground := Go.Ground.chain }], guard := none }) (v := ?bv15) rfl (by kernel_rfl) (by kernel_rfl) (by kernel_rfl) (fun _ _ _ h => h) (Or.inl ⟨by rfl, ?by15⟩) (by assumption) ?br15
        case by15 => (intro w hSw; (try dsimp only at hSw); go_simp; try (with_reducible rfl))
        case br15 =>
        try simp only [Act.put, List.setIfInBounds_toArray, List.set_cons_zero, List.set_cons_succ]
        refine wpAnyH_take (i := 16) (oi := { dst := some 34, op := Go.Op.move (Go.Operand.tmp 5), type := 3, pos := "ref.go:185", after := #[{ on := 15, ground := Go.Ground.guard }], guard := some (15, false) }) (v := ?bv16) rfl (by kernel_rfl) (by kernel_rfl) (by kernel_rfl) (fun _ _ _ h => h) (Or.inl ⟨by rfl, ?by16⟩) (by assumption) ?br16
        case by16 => (intro w hSw; (try dsimp only at hSw); go_simp; try (with_reducible rfl))
        case br16 =>
        try simp only [Act.put, List.setIfInBounds_toArray, List.set_cons_zero, List.set_cons_succ]
        refine wpAnyH_take (i := 17) (oi := { dst := some 35, op := Go.Op.move (Go.Operand.tmp 1), type := 22, pos := "ref.go:185", after := #[{ on := 15, ground := Go.Ground.guard }], guard := some (15, false) }) (v := ?bv17) rfl (by kernel_rfl) (by kernel_rfl) (by kernel_rfl) (fun _ _ _ h => h) (Or.inl ⟨by rfl, ?by17⟩) (by assumption) ?br17
        case by17 => (intro w hSw; (try dsimp only at hSw); go_simp; try (with_reducible rfl))
        case br17 =>
        try simp only [Act.put, List.setIfInBounds_toArray, List.set_cons_zero, List.set_cons_succ]
        refine wpAnyH_take (i := 18) (oi := { dst := some 36, op := Go.Op.call { callee := Go.Callee.builtin Go.Builtin.len, args := #[Go.Operand.tmp 35], argTypes := #[22] }, type := 3, pos := "ref.go:185", after := #[{ on := 17, ground := Go.Ground.data }, { on := 15, ground := Go.Ground.guard }], guard := some (15, false) }) (v := ?bv18) rfl (by kernel_rfl) (by kernel_rfl) (by kernel_rfl) (fun _ _ _ h => h) (Or.inl ⟨by rfl, ?by18⟩) (by assumption) ?br18
        case by18 => (intro w hSw; (try dsimp only at hSw); go_simp; try (with_reducible rfl))
        case br18 =>
        try simp only [Act.put, List.setIfInBounds_toArray, List.set_cons_zero, List.set_cons_succ]
        refine wpAnyH_take (i := 19) (oi := { dst := some 37, op := Go.Op.binOp Go.BinOp.geq 3 (Go.Operand.tmp 34) (Go.Operand.tmp 36) 3, type := 4, pos := "ref.go:185", after := #[{ on := 16, ground := Go.Ground.data }, { on := 18, ground := Go.Ground.data }, { on := 15, ground := Go.Ground.guard }], guard := some (15, false) }) (v := (.bool true)) rfl (by kernel_rfl) (by kernel_rfl) (by kernel_rfl) (fun _ _ _ h => h) (Or.inl ⟨by rfl, ?by19⟩) (by assumption) ?br19
        case by19 => (intro w hSw; (try dsimp only at hSw); go_simp; try (exact Nat.le_of_not_lt hlow))
        case br19 =>
        try simp only [Act.put, List.setIfInBounds_toArray, List.set_cons_zero, List.set_cons_succ]
        refine wpAnyH_take (i := 20) (oi := { dst := some 38, op := Go.Op.move (Go.Operand.tmp 37), type := 4, pos := "ref.go:185", after := #[{ on := 19, ground := Go.Ground.data }, { on := 15, ground := Go.Ground.chain }, { on := 15, ground := Go.Ground.guard }], guard := some (15, false) }) (v := ?bv20) rfl (by kernel_rfl) (by kernel_rfl) (by kernel_rfl) (fun _ _ _ h => h) (Or.inl ⟨by rfl, ?by20⟩) (by assumption) ?br20
        case by20 => (intro w hSw; (try dsimp only at hSw); go_simp; try (with_reducible rfl))
        case br20 =>
        try simp only [Act.put, List.setIfInBounds_toArray, List.set_cons_zero, List.set_cons_succ]
        refine wpAnyH_take (i := 21) (oi := { dst := some 39, op := Go.Op.move (Go.Operand.tmp 0), type := 22, pos := "ref.go:185", after := #[{ on := 20, ground := Go.Ground.guard }], guard := some (20, true) }) (v := ?bv21) rfl (by kernel_rfl) (by kernel_rfl) (by kernel_rfl) (fun _ _ _ h => h) (Or.inl ⟨by rfl, ?by21⟩) (by assumption) ?br21
        case by21 => (intro w hSw; (try dsimp only at hSw); go_simp; try (with_reducible rfl))
        case br21 =>
        try simp only [Act.put, List.setIfInBounds_toArray, List.set_cons_zero, List.set_cons_succ]
        refine wpAnyH_take (i := 22) (oi := { dst := some 40, op := Go.Op.move (Go.Operand.tmp 5), type := 3, pos := "ref.go:185", after := #[{ on := 20, ground := Go.Ground.guard }], guard := some (20, true) }) (v := ?bv22) rfl (by kernel_rfl) (by kernel_rfl) (by kernel_rfl) (fun _ _ _ h => h) (Or.inl ⟨by rfl, ?by22⟩) (by assumption) ?br22
        case by22 => (intro w hSw; (try dsimp only at hSw); go_simp; try (with_reducible rfl))
        case br22 =>
        try simp only [Act.put, List.setIfInBounds_toArray, List.set_cons_zero, List.set_cons_succ]
        refine wpAnyH_take (i := 23) (oi := { dst := some 41, op := Go.Op.indexAddr 22 (Go.Operand.tmp 39) (Go.Operand.tmp 40), type := 0, pos := "ref.go:185", after := #[{ on := 21, ground := Go.Ground.data }, { on := 22, ground := Go.Ground.data }, { on := 20, ground := Go.Ground.guard }], guard := some (20, true) }) (v := ?bv23) rfl (by kernel_rfl) (by kernel_rfl) (by kernel_rfl) (fun _ _ _ h => h) (Or.inl ⟨by rfl, ?by23⟩) (by assumption) ?br23
        case by23 => (intro w hSw; (try dsimp only at hSw); go_simp; try (with_reducible rfl))
        case br23 =>
        try simp only [Act.put, List.setIfInBounds_toArray, List.set_cons_zero, List.set_cons_succ]
        refine wpAnyH_take (i := 24) (oi := { dst := some 42, op := Go.Op.load 5 (Go.Operand.tmp 41), type := 5, pos := "ref.go:185", after := #[{ on := 23, ground := Go.Ground.data }, { on := 20, ground := Go.Ground.guard }], guard := some (20, true) }) (v := ?bv24) rfl (by kernel_rfl) (by kernel_rfl) (by kernel_rfl) (fun _ _ _ h => h) (Or.inl ⟨by rfl, ?by24⟩) (by assumption) ?br24
        case by24 => (intro w hSw; (try dsimp only at hSw); go_simp; try (with_reducible rfl))
        case br24 =>
        try simp only [Act.put, List.setIfInBounds_toArray, List.set_cons_zero, List.set_cons_succ]
        refine wpAnyH_take (i := 25) (oi := { dst := some 43, op := Go.Op.move (Go.Operand.tmp 5), type := 3, pos := "ref.go:185", after := #[{ on := 20, ground := Go.Ground.guard }], guard := some (20, true) }) (v := ?bv25) rfl (by kernel_rfl) (by kernel_rfl) (by kernel_rfl) (fun _ _ _ h => h) (Or.inl ⟨by rfl, ?by25⟩) (by assumption) ?br25
        case by25 => (intro w hSw; (try dsimp only at hSw); go_simp; try (with_reducible rfl))
        case br25 =>
        try simp only [Act.put, List.setIfInBounds_toArray, List.set_cons_zero, List.set_cons_succ]
        refine wpAnyH_take (i := 26) (oi := { dst := some 44, op := Go.Op.binOp Go.BinOp.add 3 (Go.Operand.const (Go.Value.int Go.IntKind.i64 201)) (Go.Operand.tmp 43) 3, type := 3, pos := "ref.go:185", after := #[{ on := 25, ground := Go.Ground.data }, { on := 20, ground := Go.Ground.guard }], guard := some (20, true) }) (v := ?bv26) rfl (by kernel_rfl) (by kernel_rfl) (by kernel_rfl) (fun _ _ _ h => h) (Or.inl ⟨by rfl, ?by26⟩) (by assumption) ?br26
        case by26 => (intro w hSw; (try dsimp only at hSw); go_simp; try (with_reducible rfl))
        case br26 =>
        try simp only [Act.put, List.setIfInBounds_toArray, List.set_cons_zero, List.set_cons_succ]
        refine wpAnyH_take (i := 27) (oi := { dst := some 45, op := Go.Op.convert 3 5 (Go.Operand.tmp 44), type := 5, pos := "ref.go:185", after := #[{ on := 26, ground := Go.Ground.data }, { on := 20, ground := Go.Ground.guard }], guard := some (20, true) }) (v := (.int .u8 m)) rfl (by kernel_rfl) (by kernel_rfl) (by kernel_rfl) (fun _ _ _ h => h) (Or.inl ⟨by rfl, ?by27⟩) (by assumption) ?br27
        case by27 => (intro w hSw; (try dsimp only at hSw); go_simp; try (rw [hs1, hs2]))
        case br27 =>
        try simp only [Act.put, List.setIfInBounds_toArray, List.set_cons_zero, List.set_cons_succ]
        refine wpAnyH_take (i := 28) (oi := { dst := some 46, op := Go.Op.binOp Go.BinOp.neq 5 (Go.Operand.tmp 42) (Go.Operand.tmp 45) 5, type := 4, pos := "ref.go:185", after := #[{ on := 24, ground := Go.Ground.data }, { on := 27, ground := Go.Ground.data }, { on := 20, ground := Go.Ground.guard }], guard := some (20, true) }) (v := ?bv28) rfl (by kernel_rfl) (by kernel_rfl) (by kernel_rfl) (fun _ _ _ h => h) (Or.inl ⟨by rfl, ?by28⟩) (by assumption) ?br28
        case by28 => (intro w hSw; (try dsimp only at hSw); go_simp; try (with_reducible rfl))
        case br28 =>
        try simp only [Act.put, List.setIfInBounds_toArray, List.set_cons_zero, List.set_cons_succ]
        refine wpAnyH_take (i := 29) (oi := { dst := some 47, op := Go.Op.pick (Go.Operand.tmp 38) (Go.Operand.tmp 46) (Go.Operand.const (Go.Value.bool false)), type := 4, pos := "ref.go:185", after := #[{ on := 20, ground := Go.Ground.data }, { on := 28, ground := Go.Ground.data }, { on := 15, ground := Go.Ground.guard }], guard := some (15, false) }) (v := ?bv29) rfl (by kernel_rfl) (by kernel_rfl) (by kernel_rfl) (fun _ _ _ h => h) (Or.inl ⟨by rfl, ?by29⟩) (by assumption) ?br29
        case by29 => (intro w hSw; (try dsimp only at hSw); go_simp; try (with_reducible rfl))
        case br29 =>
        try simp only [Act.put, List.setIfInBounds_toArray, List.set_cons_zero, List.set_cons_succ]
        refine wpAnyH_take (i := 30) (oi := { dst := some 48, op := Go.Op.pick (Go.Operand.tmp 33) (Go.Operand.const (Go.Value.bool true)) (Go.Operand.tmp 47), type := 4, pos := "ref.go:185", after := #[{ on := 15, ground := Go.Ground.data }, { on := 29, ground := Go.Ground.data }], guard := none }) (v := ?bv30) rfl (by kernel_rfl) (by kernel_rfl) (by kernel_rfl) (fun _ _ _ h => h) (Or.inl ⟨by rfl, ?by30⟩) (by assumption) ?br30
        case by30 => (intro w hSw; (try dsimp only at hSw); go_simp; try (with_reducible rfl))
        case br30 =>
        try simp only [Act.put, List.setIfInBounds_toArray, List.set_cons_zero, List.set_cons_succ]
        refine wpAnyH_done (by kernel_rfl) ?_ _
        go_wp2
        exact ⟨⟨i + 1, by omega, by go_num, k + 1, by rw [HW.out]; rfl⟩, by simp [intOf]; omega⟩
    · go_wp2
      go_ret
      exact ⟨rfl, k, rfl⟩

end Go.Proofs.Ytpfobbhoahnebaa

/-
  The law on pushes. Conditions: none.
-/
namespace Go.Proofs.Ytpfobbhoahnebaa
open Go.RowKit

theorem kept_any (B B' : Nat) (x y : Value) (bs : List UInt8) (w : World) (hx : Byt w B x (tinted bs)) (hy : Byt w B' y bs) (hl : bs.length ≤ 60000000) :
    Calls Try.prog 16 #[x, y] w fun e w' => e = .returned (.bool true) ∧ Below w.heap.size w w' ∧ w'.heap = w.heap :=
  (kept_yes B B' x y bs w hx hy hl).mono fun e w' ⟨he, k, hk⟩ => ⟨he, by subst hk; exact ⟨rfl, rfl, rfl, Nat.le_refl _, fun _ _ => rfl⟩, by subst hk; rfl⟩

/-- Parse of two pushes. -/
def TwoOps (w : World) (c1 : UInt8) (ds : List UInt8) (e : Ending) (w' : World) : Prop :=
  ∃ A c p q, e = .returned (.tuple #[.slice A 2 c, .int .i64 0]) ∧ p.code = c1 ∧ p.data = ds ∧ OpsAt w' w.heap.size (.slice A 2 c) [p, q] ∧ Below w.heap.size w w'
theorem parse_two (B : Nat) (x : Value) (zs ds es : List UInt8) (c1 c2 : UInt8) (h : parseP zs = some [(c1, ds), (c2, es)]) (w : World) (hx : Byt w B x zs) (hl : zs.length ≤ 60000000) :
    Calls Try.prog 12 #[x] w (TwoOps w c1 ds) := by
  refine (parse_any B x zs w hx hl).mono fun e w' hp => ?_
  unfold Parsed at hp
  rw [h] at hp
  obtain ⟨A, c, L, he, hL, ho, hb⟩ := hp
  match L, hL with
  | [p, q], hL =>
    simp only [List.map_cons, List.map_nil, Piece.pair, List.cons.injEq, Prod.mk.injEq] at hL
    exact ⟨A, c, p, q, he, hL.1.1, hL.1.2, ho, hb⟩

theorem row_tinted {w : World} {g : Nat} {bs : List UInt8} (h : Row w g (tinted bs)) (hl : bs.length ≤ 60000000) :
    Byt w w.heap.size (.slice (some ⟨g, 0, none⟩) bs.length (bs.length + 9)) bs ∧ Byt w w.heap.size (.slice (some ⟨g, 0, none⟩) (bs.length + 9) (bs.length + 9)) (tinted bs) := by
  have h1 := h.byt (n := bs.length) (c := bs.length + 9) (by rw [tinted_length]; omega) (by omega) (by unfold maxLen; omega)
  have h2 := h.byt (n := bs.length + 9) (c := bs.length + 9) (by rw [tinted_length]; omega) (by omega) (by unfold maxLen; omega)
  have e1 : (tinted bs).take bs.length = bs := by unfold tinted; exact List.take_left
  have e2 : (tinted bs).take (bs.length + 9) = tinted bs := List.take_of_length_le (by rw [tinted_length]; exact Nat.le_refl _)
  rw [e1] at h1
  rw [e2] at h2
  exact ⟨h1, h2⟩

set_option maxRecDepth 100000 in
set_option maxHeartbeats 6400000 in
theorem pushes_law (B : Nat) (x y : Value) (bs ms : List UInt8) (w : World) (hx : Byt w B x bs) (hy : Byt w B y ms) (hB : B ≤ w.heap.size) :
    Calls Try.prog 4 #[x, y] w fun e w' => e = .returned (.bool true) ∧ Below w.heap.size w w' := by
  obtain ⟨i0, hi, hz0, hz1, hz2⟩ := info_parts info_u8
  obtain ⟨cs, hcs⟩ : ∃ cs, cs = bs.take 70000 := ⟨_, rfl⟩
  obtain ⟨es, hes⟩ : ∃ es, es = ms.take 300 := ⟨_, rfl⟩
  have hcl : cs.length ≤ 70000 := by rw [hcs]; exact List.length_take_le _ _
  have hel : es.length ≤ 300 := by rw [hes]; exact List.length_take_le _ _
  have HX := Lib.hid hx
  have HY := Lib.hid hy
  obtain ⟨A, c, rfl⟩ := hx.form
  obtain ⟨A2, c2, rfl⟩ := hy.form
  have HCS := Lib.hid hcs
  have HES := Lib.hid hes
  clear hx hy hcs hes
  obtain ⟨k1, k2, hpt, hk1, hk2⟩ := push_two cs es (by omega) (by omega)
  have hpl : (pushB cs).length ≤ cs.length + 5 := by
    unfold pushB
    cases aloneB cs with
    | some c => simp
    | none =>
      unfold headB
      rw [List.length_append]
      split
      · simp; omega
      split
      · simp; omega
      split <;> simp [low_length] <;> omega
  have hql : (pushB es).length ≤ es.length + 5 := by
    unfold pushB
    cases aloneB es with
    | some c => simp
    | none =>
      unfold headB
      rw [List.length_append]
      split
      · simp; omega
      split
      · simp; omega
      split <;> simp [low_length] <;> omega
  have hpp := push_pushes cs (by omega)
  have HPT := Lib.hid hpt
  have HK1 := Lib.hid hk1
  have HK2 := Lib.hid hk2
  have HPP := Lib.hid hpp
  have HPL := Lib.hid (And.intro hpl hql)
  clear hpt hk1 hk2 hpp hpl hql
  go_enter Try.func4, Try.ntmps4
  go_wp2_with fail
  refine (awake_any w).mono ?_
  rintro e w1 ⟨rfl, hb1⟩
  have HB1 := Lib.hid hb1
  have HY1 := Lib.hid (HY.out.below (hb1.mono hB))
  clear hb1 HY
  go_wp2_with fail
  refine (shorts_any B _ bs 70000 (by omega) w1 (HX.out.below (HB1.out.mono hB))).mono ?_
  rintro e w2 ⟨⟨y1, rfl, hy1⟩, rfl⟩
  rw [← HCS.out] at hy1
  obtain ⟨A3, c3, rfl⟩ := hy1.form
  have HD := Lib.hid hy1
  clear hy1 HX HCS
  go_wp2_with fail
  refine (spare_any B _ cs w1 HD.out (Nat.le_trans hB HB1.out.size) (by omega)).mono ?_
  rintro e w2 ⟨rfl, hrow, hb2⟩
  obtain ⟨hin, hall⟩ := row_tinted hrow (by omega)
  have HIN := Lib.hid hin
  have HAL := Lib.hid hall
  have HB2 := Lib.hid (HB1.out.trans (hb2.mono HB1.out.size))
  have HD2 := Lib.hid (HD.out.below (hb2.mono (Nat.le_trans hB HB1.out.size)))
  have HY2 := Lib.hid (HY1.out.below (hb2.mono (Nat.le_trans hB HB1.out.size)))
  clear hin hall hrow hb2 HD HY1
  go_wp2_with fail
  refine (push_any _ _ cs w2 HIN.out (Nat.le_refl _) (by omega)).mono ?_
  intro e w3 hfr
  obtain ⟨u3, rfl, hown3, hb3⟩ := fresh_v hfr
  obtain ⟨A4, c4, rfl⟩ := hown3.form
  have HP3 := Lib.hid (Byt.of_own hown3)
  have HB3 := Lib.hid (HB2.out.trans (hb3.mono HB2.out.size))
  have HD3 := Lib.hid (HD2.out.below (hb3.mono (Nat.le_trans hB HB2.out.size)))
  have HY3 := Lib.hid (HY2.out.below (hb3.mono (Nat.le_trans hB HB2.out.size)))
  have HAL3 := Lib.hid ((HAL.out.below hb3).more hb3.size)
  clear hfr hown3 hb3 HIN HAL HD2 HY2
  go_wp2_with fail
  refine (rpush_any B _ cs w3 HD3.out (Nat.le_trans hB HB3.out.size) (by omega)).mono ?_
  intro e w4 hfr
  obtain ⟨u4, rfl, hown4, hb4⟩ := fresh_v hfr
  obtain ⟨A5, c5, rfl⟩ := hown4.form
  have HQ4 := Lib.hid (Byt.of_own hown4)
  have HP4 := Lib.hid ((HP3.out.below hb4).more hb4.size)
  have HB4 := Lib.hid (HB3.out.trans (hb4.mono HB3.out.size))
  have HD4 := Lib.hid (HD3.out.below (hb4.mono (Nat.le_trans hB HB3.out.size)))
  have HY4 := Lib.hid (HY3.out.below (hb4.mono (Nat.le_trans hB HB3.out.size)))
  have HAL4 := Lib.hid ((HAL3.out.below hb4).more hb4.size)
  clear hfr hown4 hb4 HP3 HD3 HY3 HAL3
  go_wp2_with fail
  refine (equal_yes _ _ _ _ _ _ w4 HP4.out HQ4.out rfl).mono ?_
  rintro e w5 ⟨rfl, rfl⟩
  clear HQ4
  have HTL : Hid ((tinted cs).length = cs.length + 9) := Lib.hid (tinted_length cs)
  go_wp2_with fail
  refine (kept_any _ _ _ _ cs w4 HAL4.out HD4.out (by omega)).mono ?_
  rintro e w5 ⟨rfl, hb5, hh5⟩
  have HP5 := Lib.hid ((HP4.out.below hb5).more hb5.size)
  have HB5 := Lib.hid (HB4.out.trans (hb5.mono HB4.out.size))
  have HD5 := Lib.hid (HD4.out.below (hb5.mono (Nat.le_trans hB HB4.out.size)))
  have HY5 := Lib.hid (HY4.out.below (hb5.mono (Nat.le_trans hB HB4.out.size)))
  clear hb5 hh5 HP4 HD4 HY4 HAL4
  go_wp2_with fail
  refine (shorts_any B _ ms 300 (by omega) w5 HY5.out).mono ?_
  rintro e w6 ⟨⟨y6, rfl, hy6⟩, rfl⟩
  rw [← HES.out] at hy6
  obtain ⟨A6, c6, rfl⟩ := hy6.form
  have HE6 := Lib.hid hy6
  clear hy6 HES HY5
  go_wp2_with fail
  refine (push_any B _ es w5 HE6.out (Nat.le_trans hB HB5.out.size) (by omega)).mono ?_
  intro e w7 hfr
  obtain ⟨u7, rfl, hown7, hb7⟩ := fresh_v hfr
  obtain ⟨A7, c7, rfl⟩ := hown7.form
  have HQ7 := Lib.hid (Byt.of_own hown7)
  have HP7 := Lib.hid ((HP5.out.below hb7).more hb7.size)
  have HB7 := Lib.hid (HB5.out.trans (hb7.mono HB5.out.size))
  have HD7 := Lib.hid (HD5.out.below (hb7.mono (Nat.le_trans hB HB5.out.size)))
  clear hfr hown7 hb7 HP5 HD5 HE6
  have hown8 : (w7.alloc (.cells #[] 5)).ownsRow w7.heap.size 5 1 (.slice (some ⟨w7.heap.size, 0, none⟩) 0 0) 0 [] := World.ownsRow_made w7 #[] 0 (Nat.le_refl _) (by unfold maxLen; omega) rfl
  have HO8 := Lib.hid hown8
  have HP8 := Lib.hid (HP7.out.below ((Below.refl w7.heap.size w7).alloc (Nat.le_refl _) (.cells #[] 5)))
  have HQ8 := Lib.hid (HQ7.out.below ((Below.refl w7.heap.size w7).alloc (Nat.le_refl _) (.cells #[] 5)))
  have HB8 := Lib.hid ((Below.refl w7.heap.size w7).alloc (Nat.le_refl _) (.cells #[] 5))
  have HS8 : Hid (w7.heap.size ≤ (w7.alloc (.cells #[] 5)).heap.size) := Lib.hid (by simp)
  clear hown8 HQ7
  go_wp2_with (first | (at_builtin; refine wpList_append_bytes rfl (.tmp 37) (.tmp 38) 22 rfl w7.heap.size 5 i0 slice_u8 hi hz0 hz1 hz2 _ 0 [] rfl HO8.out _ _ (pushB cs) rfl HP8.out (by have := HPL.out; omega) HS8.out ?_; intro v9 w9 hown9 hg9 hat9; have ho9 : OwnB w9 w7.heap.size v9 (pushB cs) := (by rw [Nat.zero_add, List.nil_append] at hown9; exact hown9); have hT9 := ((Turns.refl (fun k => (Value.slice (some ⟨w7.heap.size, 0, none⟩) 0 0).ownBlock = some k) _).grown hg9 (fun k hk _ => hk)); have hb9 : Below w7.heap.size w7 w9 := HB8.out.trans (hT9.below_of HS8.out (fun i hi e => by simp [Value.ownBlock] at e; omega)); have HO9 := Lib.hid ho9; have HB9 := Lib.hid hb9; have HQ9 := Lib.hid (HQ8.out.below (hT9.below_of (by simp) (fun i hi e => by simp [Value.ownBlock] at e; omega))); clear hown9 hg9 hat9 ho9 hT9 hb9) | (at_builtin; refine wpList_append_bytes rfl (.tmp 39) (.tmp 40) 22 rfl w7.heap.size 5 i0 slice_u8 hi hz0 hz1 hz2 _ _ _ rfl HO9.out _ _ (pushB es) rfl HQ9.out (by have := HPL.out; omega) HB9.out.size ?_; intro v10 w10 hown10 hg10 hat10))
  have ho10 : OwnB w10 w7.heap.size v10 (pushB cs ++ pushB es) := own_b hown10 rfl
  have hT10 := ((Turns.refl (fun k => v9.ownBlock = some k) w9).grown hg10 (fun k hk _ => hk))
  have hb10 : Below w7.heap.size w7 w10 := HB9.out.trans (hT10.below_of HB9.out.size (fun i hi e => by have := (World.ownsRow.lt HO9.out i e).1; omega))
  obtain ⟨A10, c10, rfl⟩ := ho10.form
  have HZ10 := Lib.hid (Byt.of_own ho10)
  have HP10 := Lib.hid (HP7.out.below hb10)
  have HB10 := Lib.hid (HB7.out.trans (hb10.mono HB7.out.size))
  have HD10 := Lib.hid (HD7.out.below (hb10.mono (Nat.le_trans hB HB7.out.size)))
  have HS10 := Lib.hid hb10.size
  clear hown10 hg10 hat10 ho10 hT10 hb10 HO8 HP8 HQ8 HB8 HS8 HO9 HB9 HQ9 HP7 HD7
  have HZL : Hid ((pushB cs ++ pushB es).length ≤ 60000000) := Lib.hid (by rw [List.length_append]; have := HPL.out; omega)
  refine (parse_two _ _ _ (behind cs) (behind es) k1 k2 HPT.out w10 HZ10.out HZL.out).mono ?_
  rintro e w11 ⟨A11, c11, ⟨pc, pa, pd⟩, q, rfl, hpc, hpd, hops, hb11⟩
  dsimp only at hpc hpd
  subst hpc hpd
  have hown11 := hops.2.1 ⟨pc, pa, behind cs⟩ (by simp)
  dsimp only at hown11
  obtain ⟨Ad, cd, rfl⟩ := hown11.form
  have HDT := Lib.hid (Byt.of_own hown11)
  obtain ⟨A', c', e0, _, _, h4⟩ := OpsR.of_at hops
  obtain ⟨e1, e2, e3⟩ := Value.slice.inj e0
  subst e1 e3
  clear e2 e0
  obtain ⟨gb, go_, rfl, hgb, hcc⟩ := h4 (by simp)
  obtain ⟨q0, q1, _⟩ := hcc 0 _ rfl
  have r0 : w11.cell? ⟨gb, go_, none⟩ = some (.int .u8 (pc.toNat : Int)) := q0
  have r1 : w11.cell? ⟨gb, go_ + 1, none⟩ = some (.slice Ad (behind cs).length cd) := q1
  have HR0 := Lib.hid r0
  have HR1 := Lib.hid r1
  have HGB := Lib.hid hgb
  have HP11 := Lib.hid (HP10.out.below (hb11.mono HS10.out))
  have HB11 := Lib.hid (HB10.out.trans (hb11.mono HB10.out.size))
  have HD11 := Lib.hid (HD10.out.below (hb11.mono (Nat.le_trans hB HB10.out.size)))
  have HS11 := Lib.hid (Nat.le_trans HS10.out hb11.size)
  clear hcc h4 q0 q1 r0 r1 hgb hops hown11 hb11 HZ10 HP10 HB10 HD10 HS10 HZL
  have hpu := pushes_any w7.heap.size _ (pushB cs) w11 HP11.out (by have := HPL.out; omega)
  rw [HPP.out] at hpu
  have HPU := Lib.hid hpu
  clear hpu
  go_wp2_with fail
  refine HPU.out.mono ?_
  rintro e w12 ⟨rfl, hb12⟩
  have hr0 : w12.cell? ⟨gb, go_, none⟩ = some (.int .u8 (pc.toNat : Int)) := (hb12.cell (p := ⟨gb, _, none⟩) HGB.out).trans HR0.out
  have hr1 : w12.cell? ⟨gb, go_ + 1, none⟩ = some (.slice Ad (behind cs).length cd) := (hb12.cell (p := ⟨gb, _, none⟩) HGB.out).trans HR1.out
  have HDT12 := Lib.hid (HDT.out.below hb12)
  have HB12 := Lib.hid (HB11.out.trans (hb12.mono HB11.out.size))
  have HD12 := Lib.hid (HD11.out.below (hb12.mono (Nat.le_trans hB HB11.out.size)))
  clear hb12 HPU HP11 HDT HR0 HR1 HD11
  cases hal : aloneB cs with
  | none =>
    have hlt := HK1.out hal
    have hbe : behind cs = cs := by unfold behind; rw [if_pos hal]
    have d1 : decide ((81 : Int) ≤ (pc.toNat : Int)) = false := decide_eq_false (by omega)
    have d2 : ((pc.toNat : Int) == 79) = false := by simp only [beq_eq_false_iff_ne, ne_eq]; omega
    rw [hbe] at hr1 HDT12
    clear hlt hbe hal
    go_wp2_with fail
    refine (equal_yes _ _ _ _ _ _ w12 HDT12.out HD12.out rfl).mono ?_
    rintro e w13 ⟨rfl, rfl⟩
    go_wp2_with fail
    go_ret
    exact ⟨rfl, HB12.out⟩
  | some k =>
    obtain rfl := HK2.out k hal
    match cs, hal, HD12 with
    | [], hal, HD12 =>
      cases hal
      have hbe : behind [] = [] := rfl
      rw [hbe] at hr1 HDT12
      have d1 : decide ((81 : Int) ≤ ((0 : UInt8).toNat : Int)) = false := rfl
      have d2 : (((0 : UInt8).toNat : Int) == 79) = false := rfl
      go_wp2_with fail
      refine (equal_yes _ _ _ _ _ _ w12 HDT12.out HD12.out rfl).mono ?_
      rintro e w13 ⟨rfl, rfl⟩
      go_wp2_with fail
      go_ret
      exact ⟨rfl, HB12.out⟩
    | [z], hal, HD12 =>
      obtain ⟨A', c', e0, _, _, _, h4⟩ := HD12.out
      obtain ⟨e1, e2, e3⟩ := Value.slice.inj e0
      subst e1 e3
      clear e2 e0
      obtain ⟨zb, zo, rfl, hzb, hzc⟩ := h4 (by simp)
      have hzcell : w12.cell? ⟨zb, zo, none⟩ = some (.int .u8 (z.toNat : Int)) := hzc 0 z rfl
      clear hzc h4 HD12 HDT12 hr1
      have hz256 := z.toNat_lt
      rw [alone_one] at hal
      by_cases h0 : z = 129
      · rw [if_pos h0] at hal
        cases hal
        subst h0
        have d1 : decide ((81 : Int) ≤ ((79 : UInt8).toNat : Int)) = false := rfl
        have d2 : (((79 : UInt8).toNat : Int) == 79) = true := rfl
        have d3 : (((129 : UInt8).toNat : Int) == 129) = true := rfl
        go_wp2_with fail
        go_ret
        exact ⟨rfl, HB12.out⟩
      · rw [if_neg h0] at hal
        by_cases h1 : 1 ≤ z.toNat ∧ z.toNat ≤ 16
        · rw [if_pos h1] at hal
          cases hal
          have hv : (UInt8.ofNat (80 + z.toNat)).toNat = 80 + z.toNat := by rw [UInt8.toNat_ofNat', Nat.mod_eq_of_lt (by omega)]
          rw [hv] at hr0
          have d1 : decide ((81 : Int) ≤ ((80 + z.toNat : Nat) : Int)) = true := decide_eq_true (by omega)
          clear hv
          go_wp2_with fail
          go_quiet (fail)
          go_wp2_with fail
          go_ret
          refine ⟨?_, HB12.out.os, HB12.out.tape, HB12.out.output, HB12.out.size, HB12.out.block⟩
          show Ending.returned (.bool ((z.toNat : Int) == 80 + (z.toNat : Int) - 80)) = _
          rw [show ((z.toNat : Int) == 80 + (z.toNat : Int) - 80) = true by simp only [beq_iff_eq]; omega]
        · rw [if_neg h1] at hal
          cases hal
    | _ :: _ :: _, hal, _ => cases hal
end Go.Proofs.Ytpfobbhoahnebaa
