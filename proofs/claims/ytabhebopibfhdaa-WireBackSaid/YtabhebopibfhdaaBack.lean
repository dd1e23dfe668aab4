/-
  WireBack: what was written is read again. Conditions: the list's bounds that the reading gives.
-/
import Derived.Test.YtabhebopibfhdaaPure
import Derived.Test.YtabhebopibfhdaaWrites
import Derived.Deep.CutBlock
import Derived.Deep.RegionHeld3
namespace Go.Proofs.Ytabhebopibfhdaa
open Go.RowKit

/-- The bytes that acts write, one behind the other. -/
def cat (al : List Ac) : List UInt8 := al.flatMap fun a => actB a.kd a.n a.bs

theorem cat_snoc {al : List Ac} {j : Nat} (h : j < al.length) : cat (al.take (j + 1)) = cat (al.take j) ++ actB al[j].kd al[j].n al[j].bs := by
  unfold cat
  rw [List.take_succ_eq_append_getElem h, List.flatMap_append]
  simp
theorem cat_le {al : List Ac} : ∀ {j : Nat}, j ≤ 40 → (cat (al.take j)).length ≤ 12360 := by
  intro j hj
  have key : ∀ l : List Ac, (cat l).length ≤ 309 * l.length := by
    intro l
    induction l with
    | nil => simp [cat]
    | cons a l ih =>
      have h := actB_le a.kd a.n a.bs
      unfold cat at ih ⊢
      rw [List.flatMap_cons, List.length_append, List.length_cons]
      omega
  have h1 := key (al.take j)
  have h2 : (al.take j).length ≤ j := List.length_take_le _ _
  omega
theorem cat_cons {al : List Ac} {j n : Nat} (h : j < al.length) (hn : j < n) : cat ((al.take n).drop j) = actB al[j].kd al[j].n al[j].bs ++ cat ((al.take n).drop (j + 1)) := by
  unfold cat
  have hl : j < (al.take n).length := by rw [List.length_take]; omega
  rw [List.drop_eq_getElem_cons hl, List.flatMap_cons]
  simp

/-- A writer that has written xs. -/
def Half (w : World) (g base : Nat) (xs : List UInt8) (wr : World) : Prop := ∃ v, xs.length ≤ 12360 ∧ Wr wr g base v xs ∧ Below w.heap.size w wr ∧ base ≤ wr.heap.size

/-- A reader without an error that has xs before it. -/
def Seen (w : World) (r : Nat) (xs : List UInt8) (wr : World) : Prop := ∃ v, Cu wr r r v 0 xs ∧ Below w.heap.size w wr

theorem Cu.drew_ {w : World} {r B : Nat} {v : Value} {k : Int} {xs : List UInt8} (h : Cu w r B v k xs) : Cu w.drew r B v k xs := h

/-- The round's own copy of an act, its shortened list, and the reader. -/
def Local (w : World) (r : Nat) (kd n : Int) (bs ys : List UInt8) (s7 s8 : Value) (wx : World) : Prop :=
  ∃ g v, s7 = .pointer (some ⟨g, 0, none⟩) ∧ wx.cell? ⟨g, 0, none⟩ = some (.int .i64 kd) ∧ wx.cell? ⟨g, 1, none⟩ = some (.int .u64 n) ∧ g < wx.heap.size ∧ g ≠ r ∧ Cu wx r r v 0 ys ∧ Below w.heap.size w wx ∧ Byt wx w.heap.size s8 (bs.take 300)

theorem local_of {w wr w4 : World} {r : Nat} {kd n : Int} {v b y : Value} {bs ys : List UInt8} {T : TypeId} (hc : Cu wr r r v 0 ys) (hbel : Below w.heap.size w wr) (hy : Byt w4 w.heap.size y (bs.take 300)) (h4 : Below w.heap.size wr w4 := by first | exact (Below.refl _ _).drew | exact ((Below.refl _ _).alloc (by assumption) _).drew) :
    Local w r kd n bs ys (.pointer (some ⟨wr.heap.size, 0, none⟩)) y (wr.alloc (.cells #[.int .i64 kd, .int .u64 n, b] T)).drew := by
  have hsz := hbel.size
  have hb : Below w.heap.size wr (wr.alloc (.cells #[.int .i64 kd, .int .u64 n, b] T)).drew := ((Below.refl _ _).alloc hsz _).drew
  refine ⟨wr.heap.size, v, rfl, cell_of_row _ _ 0 _ _ _ (heap_alloc_new wr _), cell_of_row _ _ 1 _ _ _ (heap_alloc_new wr _), ?_, ?_, hc.alloc _, hbel.trans hb, ?_⟩
  · show wr.heap.size < (wr.alloc _).heap.size
    simp
  · have := hc.lt
    omega
  · exact hy.keep fun b' o hb' => (hb.cell (p := ⟨b', o, none⟩) hb').trans (h4.cell (p := ⟨b', o, none⟩) hb').symm

theorem cat_drop_le {al : List Ac} {n i : Nat} (hn : n ≤ 40) : (cat ((al.take n).drop i)).length ≤ 12360 := by
  have key : ∀ l : List Ac, (cat l).length ≤ 309 * l.length := by
    intro l
    induction l with
    | nil => simp [cat]
    | cons a l ih =>
      have h := actB_le a.kd a.n a.bs
      unfold cat at ih ⊢
      rw [List.flatMap_cons, List.length_append, List.length_cons]
      omega
  have h1 := key ((al.take n).drop i)
  have h2 : ((al.take n).drop i).length ≤ n := by rw [List.length_drop, List.length_take]; omega
  omega

set_option maxRecDepth 100000 in
set_option maxHeartbeats 3200000 in
theorem back_some (b off len cap : Nat) (al : List Ac) (w : World) (hl : al.length = len) (_hm : len ≤ 9223372036854775807) (ha : Acts w w.heap.size b off al) :
    Calls Try.prog 4 #[.slice (some ⟨b, off, none⟩) len cap] w fun e w' => e = .returned (.bool true) ∧ Below w.heap.size w w' := by
  have HL := Lib.hid hl
  clear hl
  go_enter Try.func4, Try.ntmps4
  go_wp2_with fail
  refine (awake_any w).mono ?_
  rintro e w1 ⟨rfl, hb1⟩
  have hs1 := hb1.size
  go_upto_block 0 with fail
  go_cut [4] (fun _ wx => Half w w1.heap.size (w1.heap.size + 1) (cat (al.take (min len 40))) wx)
  case first =>
    apply wp_block
    go_loopw [4] (fun x wr => ∃ j : Nat, j ≤ len ∧ j ≤ 40 ∧ x = .int .i64 j ∧ Half w w1.heap.size (w1.heap.size + 1) (cat (al.take j)) wr) (fun x _ => len - (intOf x).toNat)
    case atStart =>
      refine ⟨0, Nat.zero_le _, by omega, rfl, .slice none 0 0, by simp [cat], ?_, hb1.alloc hs1 _, by simp⟩
      exact wr_new w1
    case round =>
      obtain ⟨j, hj, hj40, rfl, hhalf⟩ := hrel
      by_cases hlt : j < len
      · by_cases h40 : j < 40
        · obtain ⟨v, hxl, hwr, hbel, hbase⟩ := hhalf
          obtain ⟨a1, a2, a3, a4, a5, a6⟩ := (ha.below hbel).2 j (by have := HL.out; omega)
          have hsn := cat_snoc (al := al) (j := j) (by have := HL.out; omega)
          obtain ⟨a, hav⟩ : ∃ a, a = al[j]'(by have := HL.out; omega) := ⟨_, rfl⟩
          rw [← hav] at a1 a2 a3 a4 a5 a6 hsn
          obtain ⟨kd, n, bv', bs⟩ := a
          simp only at a1 a2 a3 a4 a5 a6 hsn
          clear hav
          have hul := actB_le kd n bs
          obtain ⟨A0, c0, rfl⟩ := a6.form
          have hbw := hbel.size
          obtain ⟨xs, hxs⟩ : ∃ xs, xs = cat (al.take j) := ⟨_, rfl⟩
          rw [← hxs] at hwr hxl hsn
          have htwo : Two wr w1.heap.size (w1.heap.size + 1) v (.slice none 0 0) xs [] := ⟨hwr, World.ownsRow_nil _ _ _ _, fun k hk => by simp [Value.ownBlock]⟩
          have hW := write_any w1.heap.size (w1.heap.size + 1) w.heap.size v _ _ kd n xs [] bs wr a4 a5 htwo (by have := hxl; have := hxl; omega) (by simp) a6 hbw hs1 (by omega) hbase
          have HW := Lib.hid hW
          have HS := Lib.hid hsn
          have HX := Lib.hid hxl
          clear hW hsn hxs htwo a6 hxl hwr hul
          go_wp2_with fail
          refine HW.out.mono ?_
          rintro e w2 ⟨v2, A2, c2, rfl, htwo2, ht2⟩
          have hbel2 : Below w.heap.size w w2 := hbel.trans (ht2.below_of hbw (fun i hi h => by rcases h with h | h <;> omega))
          have hw2 := Lib.hid htwo2.1
          clear htwo2
          go_wp2
          refine ⟨⟨j + 1, by omega, by omega, by go_num, ?_⟩, by simp [intOf]; omega⟩
          refine ⟨v2, ?_, ?_, hbel2, Nat.le_trans hbase ht2.size⟩
          · exact cat_le (al := al) (j := j + 1) (by omega)
          · rw [HS.out]
            exact hw2.out
        · have hd : decide ((j : Int) < 40) = false := decide_eq_false (by omega)
          have he : min len 40 = j := by omega
          rw [← he] at hhalf
          have HH := Lib.hid hhalf
          clear hhalf he
          go_wp2_with fail
          go_meet
          exact HH.out
      · have he : min len 40 = j := by omega
        rw [← he] at hhalf
        have HH := Lib.hid hhalf
        clear hhalf he
        go_wp2_with fail
        go_meet
        exact HH.out
  case rest =>
    obtain ⟨v, hxl, hwr, hbel, hbase⟩ := hcut
    obtain ⟨ys, hys⟩ : ∃ ys, ys = cat (al.take (min len 40)) := ⟨_, rfl⟩
    rw [← hys] at hwr hxl
    have HY := Lib.hid hys
    have HX := Lib.hid hxl
    clear hys hxl
    go_wp2_with fail
    refine (out_any _ _ _ _ wc hwr (by have := HX.out; omega)).mono ?_
    rintro e w2 ⟨A2, c2, rfl, hown2, hb2⟩
    have hbel2 := hbel.trans (hb2.mono hbel.size)
    go_wp2_with fail
    refine (open_any _ _ ys w2 (Byt.of_own hown2) (by have := HX.out; omega)).mono ?_
    rintro e w3 ⟨r, v3, rfl, hc3, hr3, hb3⟩
    have hbel3 := hbel2.trans (hb3.mono hbel2.size)
    have hrw : w.heap.size ≤ r := Nat.le_trans hbel2.size hr3
    clear hwr hown2 hb2 hb3 hbel hbel2 hr3
    go_upto_block 2 with fail
    go_cut [6] (fun _ wx => Seen w r [] wx)
    case first =>
      apply wp_block
      go_loopw [6] (fun x wr => ∃ j : Nat, j ≤ len ∧ j ≤ 40 ∧ x = .int .i64 j ∧ Seen w r (cat ((al.take (min len 40)).drop j)) wr) (fun x _ => len - (intOf x).toNat)
      case atStart =>
        refine ⟨0, Nat.zero_le _, by omega, rfl, v3, ?_, hbel3⟩
        rw [HY.out] at hc3
        exact hc3
      case round =>
        obtain ⟨j, hj, hj40, rfl, hseen⟩ := hrel
        by_cases hlt : j < len
        · by_cases h40 : j < 40
          · obtain ⟨v, hc, hbel⟩ := hseen
            obtain ⟨a1, a2, a3, a4, a5, a6⟩ := (ha.below hbel).2 j (by have := HL.out; omega)
            have hsn := cat_cons (al := al) (j := j) (n := min len 40) (by have := HL.out; omega) (by omega)
            obtain ⟨a, hav⟩ : ∃ a, a = al[j]'(by have := HL.out; omega) := ⟨_, rfl⟩
            rw [← hav] at a1 a2 a3 a4 a5 a6 hsn
            obtain ⟨kd, n, bv', bs⟩ := a
            simp only at a1 a2 a3 a4 a5 a6 hsn
            clear hav
            obtain ⟨A0, c0, rfl⟩ := a6.form
            obtain ⟨zs, hzs⟩ : ∃ zs, zs = cat ((al.take (min len 40)).drop (j + 1)) := ⟨_, rfl⟩
            rw [hsn, ← hzs] at hc
            have hsz := hbel.size
            have HZ := Lib.hid hzs
            have HC := Lib.hid hc
            have H6 := Lib.hid a6
            clear hzs hsn hc a6
            go_upto_region 12 with fail
            go_cut [7, 8] (fun s7 s8 wx => Local w r kd n bs (actB kd n bs ++ zs) s7 s8 wx)
            case first =>
              go_region_held3 (fun w' => w'.cell? ⟨b, off + j * 3, none⟩ = some (.int .i64 kd) ∧ w'.cell? ⟨b, off + j * 3 + 1, none⟩ = some (.int .u64 n) ∧ w'.cell? ⟨b, off + j * 3 + 2, none⟩ = some (.slice A0 bs.length c0)) (go_keep)
                (first | (go_at_call 14; refine (short_any w.heap.size _ bs _ ?_).mono ?_; exact H6.out.drew; rintro e w4 ⟨⟨y, rfl, hy⟩, rfl⟩) | (go_at_call 14; refine (short_any w.heap.size _ bs _ ?_).mono ?_; exact (H6.out.below ((Below.refl _ _).alloc hsz _)).drew; rintro e w4 ⟨⟨y, rfl, hy⟩, rfl⟩))
              all_goals go_wp2_with fail
              all_goals go_meet
              all_goals exact local_of HC.out hbel hy
            case rest =>
              clear HC H6 hbel hsz a1 a2 a3
              obtain ⟨g, v, rfl, hk0, hn1, hglt, hgr, HC, hbel0, hy⟩ := hcut
              have hsz0 := hbel0.size
              have hssl : (bs.take 300).length ≤ 300 := List.length_take_le _ _
              obtain ⟨ss, hss⟩ : ∃ ss, ss = bs.take 300 := ⟨_, rfl⟩
              rw [← hss] at hy hssl
              obtain ⟨Ay, cy, hyf⟩ := hy.form
              subst hyf
              have HSS := Lib.hid hss
              have HYY := Lib.hid hy
              clear hss hy
              by_cases k1 : kd = 1
              · subst k1
                have hr : Calls Try.prog 15 #[.pointer (some ⟨r, 0, none⟩)] wc.drew (Did wc.drew r r (.int .u8 (IntKind.u8.wrap n)) 0 zs) := by
                  have h := ru8_any r r v 0 _ wc.drew (HC.drew_)
                  have e1 : actB 1 n bs ++ zs = b8 n :: zs := rfl
                  rw [e1, numR_one n zs a4] at h
                  have e2 : n % 256 = IntKind.u8.wrap n := by rw [IntKind.wrap_u8]
                  rw [e2] at h
                  exact h
                have HR := Lib.hid hr
                clear hr HC
                go_wp2_with fail
                refine wp_region_held_drew (S := (fun w' => w'.cell? ⟨g, 1, none⟩ = some (.int .u64 n))) (by kernel_rfl) ?_ (fun hHeld => ?_)
                · exact hn1
                refine wpAnyH_take (i := 0) (oi := { dst := some 57, op := Go.Op.move (Go.Operand.tmp 5), type := 37, pos := "law.go:143", after := #[], guard := none }) (v := ?k1_v0) rfl (by kernel_rfl) (by kernel_rfl) (by kernel_rfl) (fun _ _ _ h => h) (Or.inl ⟨by rfl, ?k1_y0⟩) (by assumption) ?k1_r0
                case k1_y0 => (intro w hSw; (try dsimp only at hSw); go_simp; try (with_reducible rfl))
                case k1_r0 =>
                try simp only [Act.put, List.setIfInBounds_toArray, List.set_cons_zero, List.set_cons_succ]
                refine wpAnyH_take (i := 2) (oi := { dst := some 59, op := Go.Op.fieldAddr 31 (Go.Operand.tmp 7) 1, type := 0, pos := "law.go:143", after := #[], guard := none }) (v := ?k1_v2) rfl (by kernel_rfl) (by kernel_rfl) (by kernel_rfl) (fun _ _ _ h => h) (Or.inl ⟨by rfl, ?k1_y2⟩) (by assumption) ?k1_r2
                case k1_y2 => (intro w hSw; (try dsimp only at hSw); go_simp; try (with_reducible rfl))
                case k1_r2 =>
                try simp only [Act.put, List.setIfInBounds_toArray, List.set_cons_zero, List.set_cons_succ]
                refine wpAnyH_take (i := 3) (oi := { dst := some 60, op := Go.Op.load 29 (Go.Operand.tmp 59), type := 29, pos := "law.go:143", after := #[{ on := 2, ground := Go.Ground.data }], guard := none }) (v := ?k1_v3) rfl (by kernel_rfl) (by kernel_rfl) (by kernel_rfl) (fun _ _ _ h => h) (Or.inl ⟨by rfl, ?k1_y3⟩) (by assumption) ?k1_r3
                case k1_y3 => (intro w hSw; (try dsimp only at hSw); go_simp; try (with_reducible rfl))
                case k1_r3 =>
                try simp only [Act.put, List.setIfInBounds_toArray, List.set_cons_zero, List.set_cons_succ]
                refine wpAnyH_take (i := 4) (oi := { dst := some 61, op := Go.Op.convert 29 5 (Go.Operand.tmp 60), type := 5, pos := "law.go:143", after := #[{ on := 3, ground := Go.Ground.data }], guard := none }) (v := ?k1_v4) rfl (by kernel_rfl) (by kernel_rfl) (by kernel_rfl) (fun _ _ _ h => h) (Or.inl ⟨by rfl, ?k1_y4⟩) (by assumption) ?k1_r4
                case k1_y4 => (intro w hSw; (try dsimp only at hSw); go_simp; try (with_reducible rfl))
                case k1_r4 =>
                try simp only [Act.put, List.setIfInBounds_toArray, List.set_cons_zero, List.set_cons_succ]
                refine wpAnyH_ready (rs := [1]) (by kernel_rfl) (by simp) ?_
                refine AllReadyH.cons (o := { dst := some 58, op := Go.Op.call { callee := Go.Callee.value (Go.Operand.func 15), args := #[Go.Operand.tmp 57], argTypes := #[37] }, type := 5, pos := "law.go:143", after := #[{ on := 0, ground := Go.Ground.data }], guard := none }) rfl (fun K hK => ?_) AllReadyH.nil
                go_simp
                refine HR.out.mono ?_
                rintro e w4 ⟨rfl, v4, hc4, ht4⟩
                have hn4 : w4.cell? ⟨g, 1, none⟩ = some (.int .u64 n) := (ht4.cell (p := ⟨g, 1, none⟩) hglt hgr).trans hn1
                go_simp
                refine hK.out _ _ ?_ (fun hHeld => ?_)
                · exact hn4
                clear hK K
                try simp only [Act.put, List.setIfInBounds_toArray, List.set_cons_zero, List.set_cons_succ]
                refine wpAnyH_take (i := 5) (oi := { dst := some 62, op := Go.Op.binOp Go.BinOp.eql 5 (Go.Operand.tmp 58) (Go.Operand.tmp 61) 5, type := 4, pos := "law.go:143", after := #[{ on := 1, ground := Go.Ground.data }, { on := 4, ground := Go.Ground.data }], guard := none }) (v := ?k1_v5) rfl (by kernel_rfl) (by kernel_rfl) (by kernel_rfl) (fun _ _ _ h => h) (Or.inl ⟨by rfl, ?k1_y5⟩) (by assumption) ?k1_r5
                case k1_y5 => (intro w hSw; (try dsimp only at hSw); go_simp; try (with_reducible rfl))
                case k1_r5 =>
                try simp only [Act.put, List.setIfInBounds_toArray, List.set_cons_zero, List.set_cons_succ]
                refine wpAnyH_take (i := 6) (oi := { dst := some 9, op := Go.Op.assign (Go.Operand.tmp 62), type := 4, pos := "law.go:143", after := #[{ on := 5, ground := Go.Ground.data }, { on := 1, ground := Go.Ground.chain }, { on := 0, ground := Go.Ground.phase }, { on := 1, ground := Go.Ground.phase }, { on := 2, ground := Go.Ground.phase }, { on := 3, ground := Go.Ground.phase }, { on := 4, ground := Go.Ground.phase }, { on := 5, ground := Go.Ground.phase }], guard := none }) (v := ?k1_v6) rfl (by kernel_rfl) (by kernel_rfl) (by kernel_rfl) (fun _ _ _ h => h) (Or.inl ⟨by rfl, ?k1_y6⟩) (by assumption) ?k1_r6
                case k1_y6 => (intro w hSw; (try dsimp only at hSw); go_simp; try (with_reducible rfl))
                case k1_r6 =>
                try simp only [Act.put, List.setIfInBounds_toArray, List.set_cons_zero, List.set_cons_succ]
                refine wpAnyH_done (by kernel_rfl) ?_ _
                go_wp2
                refine ⟨⟨j + 1, by omega, by omega, by go_num, ?_⟩, by simp [intOf]; omega⟩
                rw [← HZ.out]
                exact ⟨v4, hc4, hbel0.drew.trans (ht4.below_of (a := wc.drew) hsz0 (fun i hi h => by subst h; omega))⟩
              by_cases k2 : kd = 2
              · subst k2
                have hr : Calls Try.prog 16 #[.pointer (some ⟨r, 0, none⟩)] wc.drew (Did wc.drew r r (.int .u16 (IntKind.u16.wrap n)) 0 zs) := by
                  have h := ru16_any r r v 0 _ wc.drew (HC.drew_)
                  have e1 : actB 2 n bs ++ zs = low (n % 65536) 2 ++ zs := rfl
                  rw [e1, numR_low _ 2 zs (by omega)] at h
                  have e2 : n % 65536 % 256 ^ 2 = IntKind.u16.wrap n := by rw [IntKind.wrap_u16]; omega
                  rw [e2] at h
                  exact h
                have HR := Lib.hid hr
                clear hr HC
                go_wp2_with fail
                refine wp_region_held_drew (S := (fun w' => w'.cell? ⟨g, 1, none⟩ = some (.int .u64 n))) (by kernel_rfl) ?_ (fun hHeld => ?_)
                · exact hn1
                refine wpAnyH_take (i := 0) (oi := { dst := some 65, op := Go.Op.move (Go.Operand.tmp 5), type := 37, pos := "law.go:145", after := #[], guard := none }) (v := ?k2_v0) rfl (by kernel_rfl) (by kernel_rfl) (by kernel_rfl) (fun _ _ _ h => h) (Or.inl ⟨by rfl, ?k2_y0⟩) (by assumption) ?k2_r0
                case k2_y0 => (intro w hSw; (try dsimp only at hSw); go_simp; try (with_reducible rfl))
                case k2_r0 =>
                try simp only [Act.put, List.setIfInBounds_toArray, List.set_cons_zero, List.set_cons_succ]
                refine wpAnyH_take (i := 2) (oi := { dst := some 67, op := Go.Op.fieldAddr 31 (Go.Operand.tmp 7) 1, type := 0, pos := "law.go:145", after := #[], guard := none }) (v := ?k2_v2) rfl (by kernel_rfl) (by kernel_rfl) (by kernel_rfl) (fun _ _ _ h => h) (Or.inl ⟨by rfl, ?k2_y2⟩) (by assumption) ?k2_r2
                case k2_y2 => (intro w hSw; (try dsimp only at hSw); go_simp; try (with_reducible rfl))
                case k2_r2 =>
                try simp only [Act.put, List.setIfInBounds_toArray, List.set_cons_zero, List.set_cons_succ]
                refine wpAnyH_take (i := 3) (oi := { dst := some 68, op := Go.Op.load 29 (Go.Operand.tmp 67), type := 29, pos := "law.go:145", after := #[{ on := 2, ground := Go.Ground.data }], guard := none }) (v := ?k2_v3) rfl (by kernel_rfl) (by kernel_rfl) (by kernel_rfl) (fun _ _ _ h => h) (Or.inl ⟨by rfl, ?k2_y3⟩) (by assumption) ?k2_r3
                case k2_y3 => (intro w hSw; (try dsimp only at hSw); go_simp; try (with_reducible rfl))
                case k2_r3 =>
                try simp only [Act.put, List.setIfInBounds_toArray, List.set_cons_zero, List.set_cons_succ]
                refine wpAnyH_take (i := 4) (oi := { dst := some 69, op := Go.Op.convert 29 41 (Go.Operand.tmp 68), type := 41, pos := "law.go:145", after := #[{ on := 3, ground := Go.Ground.data }], guard := none }) (v := ?k2_v4) rfl (by kernel_rfl) (by kernel_rfl) (by kernel_rfl) (fun _ _ _ h => h) (Or.inl ⟨by rfl, ?k2_y4⟩) (by assumption) ?k2_r4
                case k2_y4 => (intro w hSw; (try dsimp only at hSw); go_simp; try (with_reducible rfl))
                case k2_r4 =>
                try simp only [Act.put, List.setIfInBounds_toArray, List.set_cons_zero, List.set_cons_succ]
                refine wpAnyH_ready (rs := [1]) (by kernel_rfl) (by simp) ?_
                refine AllReadyH.cons (o := { dst := some 66, op := Go.Op.call { callee := Go.Callee.value (Go.Operand.func 16), args := #[Go.Operand.tmp 65], argTypes := #[37] }, type := 41, pos := "law.go:145", after := #[{ on := 0, ground := Go.Ground.data }], guard := none }) rfl (fun K hK => ?_) AllReadyH.nil
                go_simp
                refine HR.out.mono ?_
                rintro e w4 ⟨rfl, v4, hc4, ht4⟩
                have hn4 : w4.cell? ⟨g, 1, none⟩ = some (.int .u64 n) := (ht4.cell (p := ⟨g, 1, none⟩) hglt hgr).trans hn1
                go_simp
                refine hK.out _ _ ?_ (fun hHeld => ?_)
                · exact hn4
                clear hK K
                try simp only [Act.put, List.setIfInBounds_toArray, List.set_cons_zero, List.set_cons_succ]
                refine wpAnyH_take (i := 5) (oi := { dst := some 70, op := Go.Op.binOp Go.BinOp.eql 41 (Go.Operand.tmp 66) (Go.Operand.tmp 69) 41, type := 4, pos := "law.go:145", after := #[{ on := 1, ground := Go.Ground.data }, { on := 4, ground := Go.Ground.data }], guard := none }) (v := ?k2_v5) rfl (by kernel_rfl) (by kernel_rfl) (by kernel_rfl) (fun _ _ _ h => h) (Or.inl ⟨by rfl, ?k2_y5⟩) (by assumption) ?k2_r5
                case k2_y5 => (intro w hSw; (try dsimp only at hSw); go_simp; try (with_reducible rfl))
                case k2_r5 =>
                try simp only [Act.put, List.setIfInBounds_toArray, List.set_cons_zero, List.set_cons_succ]
                refine wpAnyH_take (i := 6) (oi := { dst := some 9, op := Go.Op.assign (Go.Operand.tmp 70), type := 4, pos := "law.go:145", after := #[{ on := 5, ground := Go.Ground.data }, { on := 1, ground := Go.Ground.chain }, { on := 0, ground := Go.Ground.phase }, { on := 1, ground := Go.Ground.phase }, { on := 2, ground := Go.Ground.phase }, { on := 3, ground := Go.Ground.phase }, { on := 4, ground := Go.Ground.phase }, { on := 5, ground := Go.Ground.phase }], guard := none }) (v := ?k2_v6) rfl (by kernel_rfl) (by kernel_rfl) (by kernel_rfl) (fun _ _ _ h => h) (Or.inl ⟨by rfl, ?k2_y6⟩) (by assumption) ?k2_r6
                case k2_y6 => (intro w hSw; (try dsimp only at hSw); go_simp; try (with_reducible rfl))
                case k2_r6 =>
                try simp only [Act.put, List.setIfInBounds_toArray, List.set_cons_zero, List.set_cons_succ]
                refine wpAnyH_done (by kernel_rfl) ?_ _
                go_wp2
                refine ⟨⟨j + 1, by omega, by omega, by go_num, ?_⟩, by simp [intOf]; omega⟩
                rw [← HZ.out]
                exact ⟨v4, hc4, hbel0.drew.trans (ht4.below_of (a := wc.drew) hsz0 (fun i hi h => by subst h; omega))⟩
              by_cases k3 : kd = 3
              · subst k3
                have hr : Calls Try.prog 17 #[.pointer (some ⟨r, 0, none⟩)] wc.drew (Did wc.drew r r (.int .u32 (IntKind.u32.wrap n)) 0 zs) := by
                  have h := ru32_any r r v 0 _ wc.drew (HC.drew_)
                  have e1 : actB 3 n bs ++ zs = low (n % 4294967296) 4 ++ zs := rfl
                  rw [e1, numR_low _ 4 zs (by omega)] at h
                  have e2 : n % 4294967296 % 256 ^ 4 = IntKind.u32.wrap n := by rw [IntKind.wrap_u32]; omega
                  rw [e2] at h
                  exact h
                have HR := Lib.hid hr
                clear hr HC
                go_wp2_with fail
                refine wp_region_held_drew (S := (fun w' => w'.cell? ⟨g, 1, none⟩ = some (.int .u64 n))) (by kernel_rfl) ?_ (fun hHeld => ?_)
                · exact hn1
                refine wpAnyH_take (i := 0) (oi := { dst := some 73, op := Go.Op.move (Go.Operand.tmp 5), type := 37, pos := "law.go:147", after := #[], guard := none }) (v := ?k3_v0) rfl (by kernel_rfl) (by kernel_rfl) (by kernel_rfl) (fun _ _ _ h => h) (Or.inl ⟨by rfl, ?k3_y0⟩) (by assumption) ?k3_r0
                case k3_y0 => (intro w hSw; (try dsimp only at hSw); go_simp; try (with_reducible rfl))
                case k3_r0 =>
                try simp only [Act.put, List.setIfInBounds_toArray, List.set_cons_zero, List.set_cons_succ]
                refine wpAnyH_take (i := 2) (oi := { dst := some 75, op := Go.Op.fieldAddr 31 (Go.Operand.tmp 7) 1, type := 0, pos := "law.go:147", after := #[], guard := none }) (v := ?k3_v2) rfl (by kernel_rfl) (by kernel_rfl) (by kernel_rfl) (fun _ _ _ h => h) (Or.inl ⟨by rfl, ?k3_y2⟩) (by assumption) ?k3_r2
                case k3_y2 => (intro w hSw; (try dsimp only at hSw); go_simp; try (with_reducible rfl))
                case k3_r2 =>
                try simp only [Act.put, List.setIfInBounds_toArray, List.set_cons_zero, List.set_cons_succ]
                refine wpAnyH_take (i := 3) (oi := { dst := some 76, op := Go.Op.load 29 (Go.Operand.tmp 75), type := 29, pos := "law.go:147", after := #[{ on := 2, ground := Go.Ground.data }], guard := none }) (v := ?k3_v3) rfl (by kernel_rfl) (by kernel_rfl) (by kernel_rfl) (fun _ _ _ h => h) (Or.inl ⟨by rfl, ?k3_y3⟩) (by assumption) ?k3_r3
                case k3_y3 => (intro w hSw; (try dsimp only at hSw); go_simp; try (with_reducible rfl))
                case k3_r3 =>
                try simp only [Act.put, List.setIfInBounds_toArray, List.set_cons_zero, List.set_cons_succ]
                refine wpAnyH_take (i := 4) (oi := { dst := some 77, op := Go.Op.convert 29 43 (Go.Operand.tmp 76), type := 43, pos := "law.go:147", after := #[{ on := 3, ground := Go.Ground.data }], guard := none }) (v := ?k3_v4) rfl (by kernel_rfl) (by kernel_rfl) (by kernel_rfl) (fun _ _ _ h => h) (Or.inl ⟨by rfl, ?k3_y4⟩) (by assumption) ?k3_r4
                case k3_y4 => (intro w hSw; (try dsimp only at hSw); go_simp; try (with_reducible rfl))
                case k3_r4 =>
                try simp only [Act.put, List.setIfInBounds_toArray, List.set_cons_zero, List.set_cons_succ]
                refine wpAnyH_ready (rs := [1]) (by kernel_rfl) (by simp) ?_
                refine AllReadyH.cons (o := { dst := some 74, op := Go.Op.call { callee := Go.Callee.value (Go.Operand.func 17), args := #[Go.Operand.tmp 73], argTypes := #[37] }, type := 43, pos := "law.go:147", after := #[{ on := 0, ground := Go.Ground.data }], guard := none }) rfl (fun K hK => ?_) AllReadyH.nil
                go_simp
                refine HR.out.mono ?_
                rintro e w4 ⟨rfl, v4, hc4, ht4⟩
                have hn4 : w4.cell? ⟨g, 1, none⟩ = some (.int .u64 n) := (ht4.cell (p := ⟨g, 1, none⟩) hglt hgr).trans hn1
                go_simp
                refine hK.out _ _ ?_ (fun hHeld => ?_)
                · exact hn4
                clear hK K
                try simp only [Act.put, List.setIfInBounds_toArray, List.set_cons_zero, List.set_cons_succ]
                refine wpAnyH_take (i := 5) (oi := { dst := some 78, op := Go.Op.binOp Go.BinOp.eql 43 (Go.Operand.tmp 74) (Go.Operand.tmp 77) 43, type := 4, pos := "law.go:147", after := #[{ on := 1, ground := Go.Ground.data }, { on := 4, ground := Go.Ground.data }], guard := none }) (v := ?k3_v5) rfl (by kernel_rfl) (by kernel_rfl) (by kernel_rfl) (fun _ _ _ h => h) (Or.inl ⟨by rfl, ?k3_y5⟩) (by assumption) ?k3_r5
                case k3_y5 => (intro w hSw; (try dsimp only at hSw); go_simp; try (with_reducible rfl))
                case k3_r5 =>
                try simp only [Act.put, List.setIfInBounds_toArray, List.set_cons_zero, List.set_cons_succ]
                refine wpAnyH_take (i := 6) (oi := { dst := some 9, op := Go.Op.assign (Go.Operand.tmp 78), type := 4, pos := "law.go:147", after := #[{ on := 5, ground := Go.Ground.data }, { on := 1, ground := Go.Ground.chain }, { on := 0, ground := Go.Ground.phase }, { on := 1, ground := Go.Ground.phase }, { on := 2, ground := Go.Ground.phase }, { on := 3, ground := Go.Ground.phase }, { on := 4, ground := Go.Ground.phase }, { on := 5, ground := Go.Ground.phase }], guard := none }) (v := ?k3_v6) rfl (by kernel_rfl) (by kernel_rfl) (by kernel_rfl) (fun _ _ _ h => h) (Or.inl ⟨by rfl, ?k3_y6⟩) (by assumption) ?k3_r6
                case k3_y6 => (intro w hSw; (try dsimp only at hSw); go_simp; try (with_reducible rfl))
                case k3_r6 =>
                try simp only [Act.put, List.setIfInBounds_toArray, List.set_cons_zero, List.set_cons_succ]
                refine wpAnyH_done (by kernel_rfl) ?_ _
                go_wp2
                refine ⟨⟨j + 1, by omega, by omega, by go_num, ?_⟩, by simp [intOf]; omega⟩
                rw [← HZ.out]
                exact ⟨v4, hc4, hbel0.drew.trans (ht4.below_of (a := wc.drew) hsz0 (fun i hi h => by subst h; omega))⟩
              by_cases k4 : kd = 4
              · subst k4
                have hr : Calls Try.prog 18 #[.pointer (some ⟨r, 0, none⟩)] wc.drew (Did wc.drew r r (.int .u64 (n)) 0 zs) := by
                  have h := ru64_any r r v 0 _ wc.drew (HC.drew_)
                  have e1 : actB 4 n bs ++ zs = low n 8 ++ zs := rfl
                  rw [e1, numR_low _ 8 zs a4] at h
                  have e2 : n % 256 ^ 8 = n := by omega
                  rw [e2] at h
                  exact h
                have HR := Lib.hid hr
                clear hr HC
                go_wp2_with fail
                refine wp_region_held_drew (S := (fun w' => w'.cell? ⟨g, 1, none⟩ = some (.int .u64 n))) (by kernel_rfl) ?_ (fun hHeld => ?_)
                · exact hn1
                refine wpAnyH_take (i := 0) (oi := { dst := some 81, op := Go.Op.move (Go.Operand.tmp 5), type := 37, pos := "law.go:149", after := #[], guard := none }) (v := ?k4_v0) rfl (by kernel_rfl) (by kernel_rfl) (by kernel_rfl) (fun _ _ _ h => h) (Or.inl ⟨by rfl, ?k4_y0⟩) (by assumption) ?k4_r0
                case k4_y0 => (intro w hSw; (try dsimp only at hSw); go_simp; try (with_reducible rfl))
                case k4_r0 =>
                try simp only [Act.put, List.setIfInBounds_toArray, List.set_cons_zero, List.set_cons_succ]
                refine wpAnyH_take (i := 2) (oi := { dst := some 83, op := Go.Op.fieldAddr 31 (Go.Operand.tmp 7) 1, type := 0, pos := "law.go:149", after := #[], guard := none }) (v := ?k4_v2) rfl (by kernel_rfl) (by kernel_rfl) (by kernel_rfl) (fun _ _ _ h => h) (Or.inl ⟨by rfl, ?k4_y2⟩) (by assumption) ?k4_r2
                case k4_y2 => (intro w hSw; (try dsimp only at hSw); go_simp; try (with_reducible rfl))
                case k4_r2 =>
                try simp only [Act.put, List.setIfInBounds_toArray, List.set_cons_zero, List.set_cons_succ]
                refine wpAnyH_take (i := 3) (oi := { dst := some 84, op := Go.Op.load 29 (Go.Operand.tmp 83), type := 29, pos := "law.go:149", after := #[{ on := 2, ground := Go.Ground.data }], guard := none }) (v := ?k4_v3) rfl (by kernel_rfl) (by kernel_rfl) (by kernel_rfl) (fun _ _ _ h => h) (Or.inl ⟨by rfl, ?k4_y3⟩) (by assumption) ?k4_r3
                case k4_y3 => (intro w hSw; (try dsimp only at hSw); go_simp; try (with_reducible rfl))
                case k4_r3 =>
                try simp only [Act.put, List.setIfInBounds_toArray, List.set_cons_zero, List.set_cons_succ]
                refine wpAnyH_ready (rs := [1]) (by kernel_rfl) (by simp) ?_
                refine AllReadyH.cons (o := { dst := some 82, op := Go.Op.call { callee := Go.Callee.value (Go.Operand.func 18), args := #[Go.Operand.tmp 81], argTypes := #[37] }, type := 29, pos := "law.go:149", after := #[{ on := 0, ground := Go.Ground.data }], guard := none }) rfl (fun K hK => ?_) AllReadyH.nil
                go_simp
                refine HR.out.mono ?_
                rintro e w4 ⟨rfl, v4, hc4, ht4⟩
                have hn4 : w4.cell? ⟨g, 1, none⟩ = some (.int .u64 n) := (ht4.cell (p := ⟨g, 1, none⟩) hglt hgr).trans hn1
                go_simp
                refine hK.out _ _ ?_ (fun hHeld => ?_)
                · exact hn4
                clear hK K
                try simp only [Act.put, List.setIfInBounds_toArray, List.set_cons_zero, List.set_cons_succ]
                refine wpAnyH_take (i := 4) (oi := { dst := some 85, op := Go.Op.binOp Go.BinOp.eql 29 (Go.Operand.tmp 82) (Go.Operand.tmp 84) 29, type := 4, pos := "law.go:149", after := #[{ on := 1, ground := Go.Ground.data }, { on := 3, ground := Go.Ground.data }], guard := none }) (v := ?k4_v4) rfl (by kernel_rfl) (by kernel_rfl) (by kernel_rfl) (fun _ _ _ h => h) (Or.inl ⟨by rfl, ?k4_y4⟩) (by assumption) ?k4_r4
                case k4_y4 => (intro w hSw; (try dsimp only at hSw); go_simp; try (with_reducible rfl))
                case k4_r4 =>
                try simp only [Act.put, List.setIfInBounds_toArray, List.set_cons_zero, List.set_cons_succ]
                refine wpAnyH_take (i := 5) (oi := { dst := some 9, op := Go.Op.assign (Go.Operand.tmp 85), type := 4, pos := "law.go:149", after := #[{ on := 4, ground := Go.Ground.data }, { on := 1, ground := Go.Ground.chain }, { on := 0, ground := Go.Ground.phase }, { on := 1, ground := Go.Ground.phase }, { on := 2, ground := Go.Ground.phase }, { on := 3, ground := Go.Ground.phase }, { on := 4, ground := Go.Ground.phase }], guard := none }) (v := ?k4_v5) rfl (by kernel_rfl) (by kernel_rfl) (by kernel_rfl) (fun _ _ _ h => h) (Or.inl ⟨by rfl, ?k4_y5⟩) (by assumption) ?k4_r5
                case k4_y5 => (intro w hSw; (try dsimp only at hSw); go_simp; try (with_reducible rfl))
                case k4_r5 =>
                try simp only [Act.put, List.setIfInBounds_toArray, List.set_cons_zero, List.set_cons_succ]
                refine wpAnyH_done (by kernel_rfl) ?_ _
                go_wp2
                refine ⟨⟨j + 1, by omega, by omega, by go_num, ?_⟩, by simp [intOf]; omega⟩
                rw [← HZ.out]
                exact ⟨v4, hc4, hbel0.drew.trans (ht4.below_of (a := wc.drew) hsz0 (fun i hi h => by subst h; omega))⟩
              by_cases k5 : kd = 5
              · subst k5
                have e1 : actB 5 n bs ++ zs = sizeB n ++ zs := rfl
                have hsr := rsz_any r r v 0 _ wc HC
                have hsrd := rsz_any r r v 0 _ wc.drew HC.drew_
                rw [e1] at hsr hsrd
                by_cases hgt : n > 33554432
                · rw [sizeR_great n zs a4 a5 hgt] at hsr
                  have HR := Lib.hid hsr
                  clear hsr hsrd HC e1
                  go_wp2_with fail
                  refine HR.out.mono ?_
                  rintro e w4 ⟨rfl, v4, hc4, ht4⟩
                  go_wp2_with fail
                  refine (rerr_any r r v4 2 _ w4 hc4).mono ?_
                  rintro e w5 ⟨rfl, rfl⟩
                  go_wp2
                  go_ret
                  exact ⟨rfl, hbel0.trans (ht4.below_of (a := wc) hsz0 (fun i hi h => by subst h; omega))⟩
                · rw [sizeR_sizeB n zs a4 (by omega)] at hsrd
                  have hr : Calls Try.prog 19 #[.pointer (some ⟨r, 0, none⟩)] wc.drew (Did wc.drew r r (.int .u64 n) 0 zs) := hsrd
                  have HR := Lib.hid hr
                  clear hsr hsrd hr HC e1
                  go_wp2_with fail
                  refine wp_region_held_drew (S := (fun w' => w'.cell? ⟨g, 1, none⟩ = some (.int .u64 n))) (by kernel_rfl) ?_ (fun hHeld => ?_)
                  · exact hn1
                  refine wpAnyH_take (i := 0) (oi := { dst := some 99, op := Go.Op.move (Go.Operand.tmp 5), type := 37, pos := "law.go:154", after := #[], guard := none }) (v := ?k5_v0) rfl (by kernel_rfl) (by kernel_rfl) (by kernel_rfl) (fun _ _ _ h => h) (Or.inl ⟨by rfl, ?k5_y0⟩) (by assumption) ?k5_r0
                  case k5_y0 => (intro w hSw; (try dsimp only at hSw); go_simp; try (with_reducible rfl))
                  case k5_r0 =>
                  try simp only [Act.put, List.setIfInBounds_toArray, List.set_cons_zero, List.set_cons_succ]
                  refine wpAnyH_take (i := 2) (oi := { dst := some 101, op := Go.Op.fieldAddr 31 (Go.Operand.tmp 7) 1, type := 0, pos := "law.go:154", after := #[], guard := none }) (v := ?k5_v2) rfl (by kernel_rfl) (by kernel_rfl) (by kernel_rfl) (fun _ _ _ h => h) (Or.inl ⟨by rfl, ?k5_y2⟩) (by assumption) ?k5_r2
                  case k5_y2 => (intro w hSw; (try dsimp only at hSw); go_simp; try (with_reducible rfl))
                  case k5_r2 =>
                  try simp only [Act.put, List.setIfInBounds_toArray, List.set_cons_zero, List.set_cons_succ]
                  refine wpAnyH_take (i := 3) (oi := { dst := some 102, op := Go.Op.load 29 (Go.Operand.tmp 101), type := 29, pos := "law.go:154", after := #[{ on := 2, ground := Go.Ground.data }], guard := none }) (v := ?k5_v3) rfl (by kernel_rfl) (by kernel_rfl) (by kernel_rfl) (fun _ _ _ h => h) (Or.inl ⟨by rfl, ?k5_y3⟩) (by assumption) ?k5_r3
                  case k5_y3 => (intro w hSw; (try dsimp only at hSw); go_simp; try (with_reducible rfl))
                  case k5_r3 =>
                  try simp only [Act.put, List.setIfInBounds_toArray, List.set_cons_zero, List.set_cons_succ]
                  refine wpAnyH_ready (rs := [1]) (by kernel_rfl) (by simp) ?_
                  refine AllReadyH.cons (o := { dst := some 100, op := Go.Op.call { callee := Go.Callee.value (Go.Operand.func 19), args := #[Go.Operand.tmp 99], argTypes := #[37] }, type := 29, pos := "law.go:154", after := #[{ on := 0, ground := Go.Ground.data }], guard := none }) rfl (fun K hK => ?_) AllReadyH.nil
                  go_simp
                  refine HR.out.mono ?_
                  rintro e w4 ⟨rfl, v4, hc4, ht4⟩
                  have hn4 : w4.cell? ⟨g, 1, none⟩ = some (.int .u64 n) := (ht4.cell (p := ⟨g, 1, none⟩) hglt hgr).trans hn1
                  go_simp
                  refine hK.out _ _ ?_ (fun hHeld => ?_)
                  · exact hn4
                  clear hK K
                  try simp only [Act.put, List.setIfInBounds_toArray, List.set_cons_zero, List.set_cons_succ]
                  refine wpAnyH_take (i := 4) (oi := { dst := some 103, op := Go.Op.binOp Go.BinOp.eql 29 (Go.Operand.tmp 100) (Go.Operand.tmp 102) 29, type := 4, pos := "law.go:154", after := #[{ on := 1, ground := Go.Ground.data }, { on := 3, ground := Go.Ground.data }], guard := none }) (v := ?k5_v4) rfl (by kernel_rfl) (by kernel_rfl) (by kernel_rfl) (fun _ _ _ h => h) (Or.inl ⟨by rfl, ?k5_y4⟩) (by assumption) ?k5_r4
                  case k5_y4 => (intro w hSw; (try dsimp only at hSw); go_simp; try (with_reducible rfl))
                  case k5_r4 =>
                  try simp only [Act.put, List.setIfInBounds_toArray, List.set_cons_zero, List.set_cons_succ]
                  refine wpAnyH_take (i := 5) (oi := { dst := some 9, op := Go.Op.assign (Go.Operand.tmp 103), type := 4, pos := "law.go:154", after := #[{ on := 4, ground := Go.Ground.data }, { on := 1, ground := Go.Ground.chain }, { on := 0, ground := Go.Ground.phase }, { on := 1, ground := Go.Ground.phase }, { on := 2, ground := Go.Ground.phase }, { on := 3, ground := Go.Ground.phase }, { on := 4, ground := Go.Ground.phase }], guard := none }) (v := ?k5_v5) rfl (by kernel_rfl) (by kernel_rfl) (by kernel_rfl) (fun _ _ _ h => h) (Or.inl ⟨by rfl, ?k5_y5⟩) (by assumption) ?k5_r5
                  case k5_y5 => (intro w hSw; (try dsimp only at hSw); go_simp; try (with_reducible rfl))
                  case k5_r5 =>
                  try simp only [Act.put, List.setIfInBounds_toArray, List.set_cons_zero, List.set_cons_succ]
                  refine wpAnyH_done (by kernel_rfl) ?_ _
                  go_wp2
                  refine ⟨⟨j + 1, by omega, by omega, by go_num, ?_⟩, by simp [intOf]; omega⟩
                  rw [← HZ.out]
                  exact ⟨v4, hc4, hbel0.drew.trans (ht4.below_of (a := wc.drew) hsz0 (fun i hi h => by subst h; omega))⟩
              by_cases k6 : kd = 6
              · subst k6
                have e1 : actB 6 n bs ++ zs = ss ++ zs := by rw [HSS.out]; rfl
                have hl6 : (ss ++ zs).length ≤ 60000 := by rw [List.length_append, HZ.out]; have := cat_drop_le (al := al) (n := min len 40) (i := j + 1) (by omega); omega
                rw [e1] at HC
                have hr := rraw_any r r v 0 ss.length (ss ++ zs) wc hl6 HC
                rw [rawR_app] at hr
                have HR := Lib.hid hr
                clear hr HC e1 hl6
                go_wp2_with fail
                refine HR.out.mono ?_
                rintro e w4 ⟨u, rfl, A4, c4, rfl, hown4, v4, hc4, ht4⟩
                have hbel4 : Below w.heap.size wc w4 := ht4.below_of (a := wc) hsz0 (fun i hi h => by subst h; omega)
                go_wp2_with fail
                refine (equal_yes _ _ _ _ ss ss _ (Byt.of_own hown4) (HYY.out.below hbel4) rfl).mono ?_
                rintro e w5 ⟨rfl, rfl⟩
                go_wp2
                refine ⟨⟨j + 1, by omega, by omega, by go_num, ?_⟩, by simp [intOf]; omega⟩
                rw [← HZ.out]
                exact ⟨v4, hc4, hbel0.trans hbel4⟩
              · have e1 : actB kd n bs ++ zs = sizeB ss.length ++ ss ++ zs := by rw [HSS.out]; unfold actB; rw [if_neg k1, if_neg k2, if_neg k3, if_neg k4, if_neg k5, if_neg k6]
                rw [e1] at HC
                have hr := rlist_any r r v 0 300 (sizeB ss.length ++ ss ++ zs) wc HC
                rw [listR_app ss zs 300 (by omega) (by omega)] at hr
                have HR := Lib.hid hr
                have q1 : (kd == 1) = false := by simpa using k1
                have q2 : (kd == 2) = false := by simpa using k2
                have q3 : (kd == 3) = false := by simpa using k3
                have q4 : (kd == 4) = false := by simpa using k4
                have q5 : (kd == 5) = false := by simpa using k5
                have q6 : (kd == 6) = false := by simpa using k6
                clear hr HC e1 k1 k2 k3 k4 k5 k6
                go_wp2_with fail
                refine HR.out.mono ?_
                rintro e w4 ⟨u, rfl, A4, c4, rfl, hown4, v4, hc4, ht4⟩
                have hbel4 : Below w.heap.size wc w4 := ht4.below_of (a := wc) hsz0 (fun i hi h => by subst h; omega)
                go_wp2_with fail
                refine (equal_yes _ _ _ _ ss ss _ (Byt.of_own hown4) (HYY.out.below hbel4) rfl).mono ?_
                rintro e w5 ⟨rfl, rfl⟩
                go_wp2
                refine ⟨⟨j + 1, by omega, by omega, by go_num, ?_⟩, by simp [intOf]; omega⟩
                rw [← HZ.out]
                exact ⟨v4, hc4, hbel0.trans hbel4⟩
          · have hd : decide ((j : Int) < 40) = false := decide_eq_false (by omega)
            have he : min len 40 = j := by omega
            have hnil : cat ((al.take (min len 40)).drop j) = [] := by rw [List.drop_of_length_le (by rw [List.length_take]; omega)]; rfl
            rw [hnil] at hseen
            have HH := Lib.hid hseen
            clear hseen he hnil
            go_wp2_with fail
            go_meet
            exact HH.out
        · have he : min len 40 = j := by omega
          have hnil : cat ((al.take (min len 40)).drop j) = [] := by rw [List.drop_of_length_le (by rw [List.length_take]; omega)]; rfl
          rw [hnil] at hseen
          have HH := Lib.hid hseen
          clear hseen he hnil
          go_wp2_with fail
          go_meet
          exact HH.out
    case rest =>
      obtain ⟨v5, hc5, hbel5⟩ := hcut
      have hcl := rclose_any r r v5 0 [] _ hc5
      have hcr : closeR 0 [] = 0 := by rfl
      rw [hcr] at hcl
      have HCL := Lib.hid hcl
      have HLF := Lib.hid (rleft_any r r v5 0 [] _ hc5)
      clear hcl hcr
      go_wp2_with fail
      refine HCL.out.mono ?_
      rintro e w6 ⟨rfl, rfl⟩
      go_wp2_with fail
      refine HLF.out.mono ?_
      rintro e w6 ⟨rfl, rfl⟩
      go_wp2
      go_ret
      exact ⟨rfl, hbel5⟩

set_option maxHeartbeats 800000 in
theorem back_none (A : Option Addr) (cap : Nat) (w : World) :
    Calls Try.prog 4 #[.slice A 0 cap] w fun e w' => e = .returned (.bool true) ∧ Below w.heap.size w w' := by
  go_enter Try.func4, Try.ntmps4
  go_wp2_with fail
  refine (awake_any w).mono ?_
  rintro e w1 ⟨rfl, hb1⟩
  have hs1 := hb1.size
  go_wp2_with fail
  refine wp_loop_rounds 1 ?_
  rw [rounds_succ]
  go_wp2_with fail
  refine (out_any _ _ _ _ _ (wr_new w1) (by simp)).mono ?_
  rintro e w2 ⟨A2, c2, rfl, hown2, hb2⟩
  have hbel2 : Below w.heap.size w w2 := (hb1.alloc hs1 _).trans (hb2.mono (by simp; omega))
  go_wp2_with fail
  refine (open_any _ _ [] w2 (Byt.of_own hown2) (by simp)).mono ?_
  rintro e w3 ⟨r, v3, rfl, hc3, hr3, hb3⟩
  have hbel3 := hbel2.trans (hb3.mono hbel2.size)
  have hcl := rclose_any r r v3 0 [] w3 hc3
  have hcr : closeR 0 [] = 0 := by rfl
  rw [hcr] at hcl
  have HCL := Lib.hid hcl
  have HLF := Lib.hid (rleft_any r r v3 0 [] w3 hc3)
  clear hcl hcr
  go_wp2_with fail
  refine wp_loop_rounds 1 ?_
  rw [rounds_succ]
  go_wp2_with fail
  refine HCL.out.mono ?_
  rintro e w6 ⟨rfl, rfl⟩
  go_wp2_with fail
  refine HLF.out.mono ?_
  rintro e w6 ⟨rfl, rfl⟩
  go_wp2
  go_ret
  exact ⟨rfl, hbel3⟩

end Go.Proofs.Ytabhebopibfhdaa
