/-
  WireShort: bytes that end too early are told as that. Conditions: the list's bounds that the reading gives.
-/
import Derived.Test.YtelbcmcffjpdoaaShortLem
namespace Go.Proofs.Ytelbcmcffjpdoaa
open Go.RowKit

/-- The shortened list has this many bytes. -/
def ShortS (w : World) (l : Nat) (e : Ending) (w' : World) : Prop := (∃ A c, e = .returned (.slice A l c)) ∧ w = w'
theorem short_len {w : World} {B : Nat} {x : Value} {bs : List UInt8} (h : Byt w B x bs) : Calls Try.prog 14 #[x] w (ShortS w (bs.take 300).length) :=
  (short_any B x bs w h).mono fun e w' ⟨⟨y, he, hy⟩, hw⟩ => by
    obtain ⟨A, c, rfl⟩ := hy.form
    exact ⟨⟨A, c, he⟩, hw⟩

theorem pair_end {w wr : World} {r g B q n j : Nat} {x v : Value} {bs xs : List UInt8} {k : Int} {al : List Ac} (he : n = j) (hp : Pair w r g B x bs (catA ((al.take n).drop j)) wr q k v xs) :
    ∃ q v xs, Pair w r g B x bs [] wr q 4 v xs := by
  subst he
  rw [catA_end] at hp
  have hk := left_end hp.left
  subst hk
  exact ⟨q, v, xs, hp⟩

/-- A writer that has written xs. -/
def HalfA (w : World) (g base : Nat) (xs : List UInt8) (wr : World) : Prop := ∃ v, xs.length ≤ 12360 ∧ Wr wr g base v xs ∧ Below w.heap.size w wr ∧ base ≤ wr.heap.size

theorem catA_len {al : List Ac} {j : Nat} (hj : j ≤ 12) : (catA (al.take j)).length ≤ 12360 := by
  have h1 := catA_le (al.take j)
  have h2 : (al.take j).length ≤ j := List.length_take_le _ _
  omega


set_option maxRecDepth 100000 in
set_option maxHeartbeats 6400000 in
theorem short_some (b off len cap : Nat) (at_ : Int) (al : List Ac) (w : World) (hl : al.length = len) (_hm : len ≤ 9223372036854775807) (ha : Acts w w.heap.size b off al) :
    Calls Try.prog 5 #[.slice (some ⟨b, off, none⟩) len cap, .int .i64 at_] w fun e w' => e = .returned (.bool true) ∧ Below w.heap.size w w' := by
  have HL := Lib.hid hl
  clear hl
  go_enter Try.func5, Try.ntmps5
  go_wp2_with fail
  refine (awake_any w).mono ?_
  rintro e w1 ⟨rfl, hb1⟩
  have hs1 := hb1.size
  go_upto_block 0 with fail
  go_cut [6] (fun _ wx => HalfA w w1.heap.size (w1.heap.size + 1) (catA (al.take (min len 12))) wx)
  case first =>
    apply wp_block
    go_loopw [6] (fun x wr => ∃ j : Nat, j ≤ len ∧ j ≤ 12 ∧ x = .int .i64 j ∧ HalfA w w1.heap.size (w1.heap.size + 1) (catA (al.take j)) wr) (fun x _ => len - (intOf x).toNat)
    case atStart =>
      refine ⟨0, Nat.zero_le _, by omega, rfl, .slice none 0 0, by simp [catA], ?_, hb1.alloc hs1 _, by simp⟩
      exact wr_new w1
    case round =>
      obtain ⟨j, hj, hj40, rfl, hhalf⟩ := hrel
      by_cases hlt : j < len
      · by_cases h40 : j < 12
        · obtain ⟨v, hxl, hwr, hbel, hbase⟩ := hhalf
          obtain ⟨a1, a2, a3, a4, a5, a6⟩ := (ha.below hbel).2 j (by have := HL.out; omega)
          have hsn := catA_snoc (al := al) (j := j) (by have := HL.out; omega)
          obtain ⟨a, hav⟩ : ∃ a, a = al[j]'(by have := HL.out; omega) := ⟨_, rfl⟩
          rw [← hav] at a1 a2 a3 a4 a5 a6 hsn
          obtain ⟨kd, n, bv', bs⟩ := a
          simp only at a1 a2 a3 a4 a5 a6
          clear hav
          have hul := actB_le kd n bs
          obtain ⟨A0, c0, rfl⟩ := a6.form
          have hbw := hbel.size
          obtain ⟨xs, hxs⟩ : ∃ xs, xs = catA (al.take j) := ⟨_, rfl⟩
          rw [← hxs] at hwr hxl hsn
          have htwo : Two wr w1.heap.size (w1.heap.size + 1) v (.slice none 0 0) xs [] := ⟨hwr, World.ownsRow_nil _ _ _ _, fun k hk => by simp [Value.ownBlock]⟩
          have hW := write_any w1.heap.size (w1.heap.size + 1) w.heap.size v _ _ kd n xs [] bs wr a4 a5 htwo (by have := hxl; omega) (by simp) a6 hbw hs1 (by omega) hbase
          have HW := Lib.hid hW
          have HS := Lib.hid hsn
          have HX := Lib.hid hxl
          have HWR := Lib.hid hwr
          clear hW hsn hxs htwo a6 hxl hul hwr
          by_cases h5 : kd = 5
          · subst h5
            by_cases hgt : n > 33554432
            · have hd : decide (n ≤ 33554432) = false := decide_eq_false (by omega)
              go_wp2_with fail
              refine ⟨⟨j + 1, by omega, by omega, by go_num, v, ?_, ?_, hbel, hbase⟩, by simp [intOf]; omega⟩
              · exact catA_len (al := al) (j := j + 1) (by omega)
              · rw [HS.out, show encA ⟨5, n, .slice A0 bs.length c0, bs⟩ = [] from if_pos ⟨rfl, hgt⟩, List.append_nil]
                exact HWR.out
            · have hd : n ≤ 33554432 := by omega
              have he : encA ⟨5, n, .slice A0 bs.length c0, bs⟩ = actB 5 n bs := if_neg (fun h => hgt h.2)
              have HE := Lib.hid he
              clear he
              go_wp2_with fail
              refine HW.out.mono ?_
              rintro e w2 ⟨v2, A2, c2, rfl, htwo2, ht2⟩
              have hbel2 : Below w.heap.size w w2 := hbel.trans (ht2.below_of hbw (fun i hi h => by rcases h with h | h <;> omega))
              have hw2 := Lib.hid htwo2.1
              clear htwo2
              go_wp2
              refine ⟨⟨j + 1, by omega, by omega, by go_num, v2, ?_, ?_, hbel2, Nat.le_trans hbase ht2.size⟩, by simp [intOf]; omega⟩
              · exact catA_len (al := al) (j := j + 1) (by omega)
              · rw [HS.out, HE.out]
                exact hw2.out
          · have q5 : (kd != 5) = true := by simpa using h5
            have he : encA ⟨kd, n, .slice A0 bs.length c0, bs⟩ = actB kd n bs := if_neg (fun h => h5 h.1)
            have HE := Lib.hid he
            clear he
            go_wp2_with fail
            refine HW.out.mono ?_
            rintro e w2 ⟨v2, A2, c2, rfl, htwo2, ht2⟩
            have hbel2 : Below w.heap.size w w2 := hbel.trans (ht2.below_of hbw (fun i hi h => by rcases h with h | h <;> omega))
            have hw2 := Lib.hid htwo2.1
            clear htwo2
            go_wp2
            refine ⟨⟨j + 1, by omega, by omega, by go_num, v2, ?_, ?_, hbel2, Nat.le_trans hbase ht2.size⟩, by simp [intOf]; omega⟩
            · exact catA_len (al := al) (j := j + 1) (by omega)
            · rw [HS.out, HE.out]
              exact hw2.out
        · have hd : decide ((j : Int) < 12) = false := decide_eq_false (by omega)
          have he : min len 12 = j := by omega
          rw [← he] at hhalf
          have HH := Lib.hid hhalf
          clear hhalf he
          go_wp2_with fail
          go_meet
          exact HH.out
      · have he : min len 12 = j := by omega
        rw [← he] at hhalf
        have HH := Lib.hid hhalf
        clear hhalf he
        go_wp2_with fail
        go_meet
        exact HH.out
  case rest =>
    obtain ⟨v, hxl, hwr, hbel, hbase⟩ := hcut
    obtain ⟨ys, hys⟩ : ∃ ys, ys = catA (al.take (min len 12)) := ⟨_, rfl⟩
    rw [← hys] at hwr hxl
    have HY := Lib.hid hys
    have HX := Lib.hid hxl
    clear hys hxl
    go_wp2_with fail
    refine (out_any _ _ _ _ wc hwr (by have := HX.out; omega)).mono ?_
    rintro e w2 ⟨A2, c2, rfl, hown2, hb2⟩
    have hbel2 := hbel.trans (hb2.mono hbel.size)
    have hby2 := Byt.of_own hown2
    clear hwr hown2 hb2 hbel
    by_cases hneg : at_ < 0
    · go_wp2_with fail
      go_ret
      exact ⟨rfl, hbel2⟩
    by_cases hge : (ys.length : Int) ≤ at_
    · go_wp2_with fail
      go_ret
      exact ⟨rfl, hbel2⟩
    obtain ⟨m, rfl⟩ : ∃ m : Nat, at_ = m := ⟨at_.toNat, by omega⟩
    have hmy : m < ys.length := by omega
    obtain ⟨bs, hbs⟩ : ∃ bs, bs = ys.take m := ⟨_, rfl⟩
    have hby : Byt w2 w2.heap.size (.slice A2 m c2) bs := by rw [hbs]; exact hby2.take_ (by omega)
    have hml : bs.length = m := by rw [hbs, List.length_take]; omega
    have hleft : Left ys 0 bs := .inr ⟨rfl, ys.drop m, (fun h => by have := congrArg List.length h; rw [List.length_drop] at this; simp at this; omega), by rw [hbs, List.take_append_drop]⟩
    have hcap := hby2.cap
    have hm60 : bs.length ≤ 60000 := by have := HX.out; omega
    have hop : ∀ W, Below w2.heap.size w2 W → Calls Try.prog 13 #[.slice A2 m c2] W (Opened W bs) := fun W hW => open_any _ _ bs W (hby.below hW) hm60
    have HOP := Lib.hid hop
    have HBY := Lib.hid hby
    have HLF := Lib.hid hleft
    have HB2 := Lib.hid hbel2
    have HAC := Lib.hid (ha.below hbel2)
    have HML := Lib.hid hml
    clear hop hby hleft hby2 hbs hbel2 hml
    go_upto_region 12 with fail
    go_cut [8, 9] (fun s8 s9 wx => Cut w w2.heap.size bs ys s8 s9 wx)
    case first =>
      go_region_with (go_at_call 13; refine (HOP.out _ (by first | exact (Below.refl _ _).drew | exact (((Below.refl _ _).drew).alloc (Nat.le_refl _) _) | exact (((Below.refl _ _).alloc (Nat.le_refl _) _).drew))).mono ?_; rintro e w3 ⟨r, v3, rfl, hc3, hr3, hb3⟩; first | (have hbx : w3.heap[w2.heap.size]? = some (.cells #[.slice none 0 0, .int .i64 0, .int .i64 0] 51 (0, 0)) := (hb3.block w2.heap.size (by simp)).trans (heap_alloc_new _ _); have x0 := cell_of_row _ _ 0 _ _ _ hbx; have x1 := cell_of_row _ _ 1 _ _ _ hbx; have x2 := cell_of_row _ _ 2 _ _ _ hbx; have xf : ∀ j, w3.frozen? ⟨w2.heap.size, j, none⟩ = false := (fun j => by simp [World.frozen?, hbx])) | skip)
      all_goals go_wp2_with fail
      all_goals go_meet
      all_goals first
        | exact cut_late HB2.out HBY.out hc3 hr3 (((Below.refl _ w2).drew).trans hb3) hm60 HLF.out
        | exact cut_soon HB2.out HBY.out hc3 (by have h := hr3; simp at h; omega) ((((Below.refl _ w2).drew).alloc (Nat.le_refl _) _).trans (hb3.mono (by simp))) hm60 HLF.out hbx
    case rest =>
      obtain ⟨r, g, x, v, xs, rfl, rfl, hBr, hBg, hgr, hp⟩ := hcut
      obtain ⟨Ax, cx, rfl⟩ := hp.byt.form
      have hwB := HB2.out.size
      clear hcap hmy
      go_upto_block 2 with fail
      go_cut [10] (fun _ wx => ∃ q v xs, Pair w r g w2.heap.size (.slice Ax bs.length cx) bs [] wx q 4 v xs)
      case first =>
        apply wp_block
        go_loopw [10] (fun x wr => ∃ (j q : Nat) (k : Int) (v : Value) (xs : List UInt8), j ≤ len ∧ j ≤ 12 ∧ x = .int .i64 j ∧ Pair w r g w2.heap.size (.slice Ax bs.length cx) bs (catA ((al.take (min len 12)).drop j)) wr q k v xs) (fun x _ => len - (intOf x).toNat)
        case atStart =>
          refine ⟨0, 0, 0, v, xs, Nat.zero_le _, by omega, rfl, ?_⟩
          rw [HY.out] at hp
          exact hp
        case round =>
          obtain ⟨j, q, k, v, xs, hj, hj40, rfl, hp⟩ := hrel
          by_cases hlt : j < len
          · by_cases h40 : j < 12
            · obtain ⟨a1, a2, a3, a4, a5, a6⟩ := (ha.below hp.bel).2 j (by have := HL.out; omega)
              have hsn := catA_cons (al := al) (j := j) (n := min len 12) (by have := HL.out; omega) (by omega)
              obtain ⟨a, hav⟩ : ∃ a, a = al[j]'(by have := HL.out; omega) := ⟨_, rfl⟩
              rw [← hav] at a1 a2 a3 a4 a5 a6 hsn
              obtain ⟨kd, n, bv', bsA⟩ := a
              simp only at a1 a2 a3 a4 a5 a6
              clear hav
              obtain ⟨A0, c0, rfl⟩ := a6.form
              obtain ⟨zs, hzs⟩ : ∃ zs, zs = catA ((al.take (min len 12)).drop (j + 1)) := ⟨_, rfl⟩
              rw [hsn, ← hzs] at hp
              have HZ := Lib.hid hzs
              have HP := Lib.hid hp
              have z0 : ∀ o, (wr.alloc o).cell? ⟨g, 0, none⟩ = some (.slice Ax bs.length cx) := fun o => cell_of_row _ _ 0 _ _ _ ((Below.heap_alloc _ _ _ (Array.getElem?_eq_some_iff.1 HP.out.box).1).trans HP.out.box)
              have z1 : ∀ o, (wr.alloc o).cell? ⟨g, 1, none⟩ = some (.int .i64 q) := fun o => cell_of_row _ _ 1 _ _ _ ((Below.heap_alloc _ _ _ (Array.getElem?_eq_some_iff.1 HP.out.box).1).trans HP.out.box)
              have z2 : ∀ o, (wr.alloc o).cell? ⟨g, 2, none⟩ = some (.int .i64 k) := fun o => cell_of_row _ _ 2 _ _ _ ((Below.heap_alloc _ _ _ (Array.getElem?_eq_some_iff.1 HP.out.box).1).trans HP.out.box)
              have hgw : g ≠ wr.heap.size := by have := (Array.getElem?_eq_some_iff.1 HP.out.box).1; omega
              have hwl := hp.bel.size
              have hsh : ∀ o, Calls Try.prog 14 #[.slice A0 bsA.length c0] (wr.alloc o) (ShortS (wr.alloc o) (bsA.take 300).length) := fun o => short_len (a6.below ((Below.refl _ _).alloc hwl o))
              have hss : (bsA.take 300).length ≤ 300 := List.length_take_le _ _
              have HSH := Lib.hid hsh
              have HSS := Lib.hid hss
              clear hsh hss hzs hsn hp a6 hwl
              by_cases h5 : kd = 5
              · subst h5
                by_cases hgt : n > 33554432
                · go_wp2_with fail
                  refine ⟨⟨j + 1, q, k, v, xs, by omega, by omega, by go_num, ?_⟩, by simp [intOf]; omega⟩
                  rw [← HZ.out]
                  exact { HP.out with left := left_skip ⟨rfl, hgt⟩ HP.out.left }
                · have hd : decide (33554432 < n) = false := decide_eq_false (by omega)
                  have hst := left_step (a := ⟨5, n, .slice A0 bsA.length c0, bsA⟩) a4 a5 (fun h => hgt h.2) HP.out.left
                  have hlen := actR_len 5 n k xs
                  have hrd : ∀ o, Calls Try.prog 25 #[.pointer (some ⟨r, 0, none⟩), .agg #[.slice Ax bs.length cx, .int .i64 q, .int .i64 k], .agg #[.int .i64 5, .int .u64 n, .slice A0 bsA.length c0]] (wr.alloc o) (ReadS (wr.alloc o) r (.slice Ax bs.length cx) bs (actR 5 n k xs).1 (actR 5 n k xs).2) := fun o => read_pair HP.out hBr hm60 (by omega) (by have := HSS.out; omega) o
                  rw [show lenA 5 n bsA = n from if_neg (by omega)] at hst
                  obtain ⟨K, hK⟩ : ∃ K, K = (actR 5 n k xs).1 := ⟨_, rfl⟩
                  obtain ⟨ts, hts⟩ : ∃ ts, ts = (actR 5 n k xs).2 := ⟨_, rfl⟩
                  simp only [← hK, ← hts] at hrd hst hlen
                  have HRD := Lib.hid hrd
                  have HST := Lib.hid hst
                  have HLN := Lib.hid hlen
                  clear hrd hst hlen hK hts
                  go_wp2_with fail
                  refine (HRD.out _).mono ?_
                  rintro e w5 ⟨q2, rfl, hq2, hqd2, v2, hc2, ht2⟩
                  have hbx5 := pair_box HP.out hgr ht2
                  have y0 : ∀ o2, (w5.alloc o2).cell? ⟨g, 0, none⟩ = some (.slice Ax bs.length cx) := fun o2 => cell_of_row _ _ 0 _ _ _ (hbx5 o2)
                  have y1 : ∀ o2, (w5.alloc o2).cell? ⟨g, 1, none⟩ = some (.int .i64 q) := fun o2 => cell_of_row _ _ 1 _ _ _ (hbx5 o2)
                  have y2 : ∀ o2, (w5.alloc o2).cell? ⟨g, 2, none⟩ = some (.int .i64 k) := fun o2 => cell_of_row _ _ 2 _ _ _ (hbx5 o2)
                  have yf : ∀ o2 i, (w5.alloc o2).frozen? ⟨g, i, none⟩ = false := fun o2 i => by have h := hbx5 o2; simp [World.frozen?, h]
                  have hg5 : g ≠ w5.heap.size := by have h1 := (Array.getElem?_eq_some_iff.1 HP.out.box).1; have h2 : wr.heap.size + 1 ≤ w5.heap.size := by simpa using ht2.size
                                                    omega
                  have HT2 := Lib.hid ht2
                  have HC2 := Lib.hid hc2
                  have HQ2 := Lib.hid hqd2
                  clear ht2 hc2 hqd2 hbx5
                  go_wp2
                  refine ⟨⟨j + 1, q2, K, v2, ts, by omega, by omega, by go_num, ?_⟩, by simp [intOf]; omega⟩
                  rw [← HZ.out]
                  exact pair_next HP.out hwB hBr hBg hgr HT2.out HC2.out HQ2.out hq2 HLN.out HST.out
              · have q5 : (kd == 5) = false := by simpa using h5
                by_cases klo : kd < 1
                · have hd : decide (kd < 1) = true := decide_eq_true klo
                  have hst := left_step (a := ⟨kd, n, .slice A0 bsA.length c0, bsA⟩) a4 a5 (fun h => h5 h.1) HP.out.left
                  have hlen := actR_len kd ((bsA.take 300).length : Int) k xs
                  have hrd : ∀ o, Calls Try.prog 25 #[.pointer (some ⟨r, 0, none⟩), .agg #[.slice Ax bs.length cx, .int .i64 q, .int .i64 k], .agg #[.int .i64 kd, .int .u64 ((bsA.take 300).length : Int), .slice A0 bsA.length c0]] (wr.alloc o) (ReadS (wr.alloc o) r (.slice Ax bs.length cx) bs (actR kd ((bsA.take 300).length : Int) k xs).1 (actR kd ((bsA.take 300).length : Int) k xs).2) := fun o => read_pair HP.out hBr hm60 (by omega) (by have := HSS.out; omega) o
                  rw [show lenA kd n bsA = ((bsA.take 300).length : Int) from if_pos (by omega)] at hst
                  obtain ⟨K, hK⟩ : ∃ K, K = (actR kd ((bsA.take 300).length : Int) k xs).1 := ⟨_, rfl⟩
                  obtain ⟨ts, hts⟩ : ∃ ts, ts = (actR kd ((bsA.take 300).length : Int) k xs).2 := ⟨_, rfl⟩
                  simp only [← hK, ← hts] at hrd hst hlen
                  have HRD := Lib.hid hrd
                  have HST := Lib.hid hst
                  have HLN := Lib.hid hlen
                  clear hrd hst hlen hK hts
                  have hw : IntKind.u64.wrap (((bsA.take 300).length : Nat) : Int) = ((bsA.take 300).length : Nat) := by rw [IntKind.wrap_u64]; have := HSS.out; omega
                  obtain ⟨L, hL⟩ : ∃ L, L = (bsA.take 300).length := ⟨_, rfl⟩
                  simp only [← hL] at hw
                  rw [← hL] at HSH HRD
                  clear hL
                  go_wp2_with fail
                  refine (HSH.out _).mono ?_
                  rintro e w4 ⟨⟨Ay, cy, rfl⟩, rfl⟩
                  go_wp2_with fail
                  refine (HRD.out _).mono ?_
                  rintro e w5 ⟨q2, rfl, hq2, hqd2, v2, hc2, ht2⟩
                  have hbx5 := pair_box HP.out hgr ht2
                  have y0 : ∀ o2, (w5.alloc o2).cell? ⟨g, 0, none⟩ = some (.slice Ax bs.length cx) := fun o2 => cell_of_row _ _ 0 _ _ _ (hbx5 o2)
                  have y1 : ∀ o2, (w5.alloc o2).cell? ⟨g, 1, none⟩ = some (.int .i64 q) := fun o2 => cell_of_row _ _ 1 _ _ _ (hbx5 o2)
                  have y2 : ∀ o2, (w5.alloc o2).cell? ⟨g, 2, none⟩ = some (.int .i64 k) := fun o2 => cell_of_row _ _ 2 _ _ _ (hbx5 o2)
                  have yf : ∀ o2 i, (w5.alloc o2).frozen? ⟨g, i, none⟩ = false := fun o2 i => by have h := hbx5 o2; simp [World.frozen?, h]
                  have hg5 : g ≠ w5.heap.size := by have h1 := (Array.getElem?_eq_some_iff.1 HP.out.box).1; have h2 : wr.heap.size + 1 ≤ w5.heap.size := by simpa using ht2.size
                                                    omega
                  have HT2 := Lib.hid ht2
                  have HC2 := Lib.hid hc2
                  have HQ2 := Lib.hid hqd2
                  clear ht2 hc2 hqd2 hbx5
                  go_wp2
                  refine ⟨⟨j + 1, q2, K, v2, ts, by omega, by omega, by go_num, ?_⟩, by simp [intOf]; omega⟩
                  rw [← HZ.out]
                  exact pair_next HP.out hwB hBr hBg hgr HT2.out HC2.out HQ2.out hq2 HLN.out HST.out
                · by_cases khi : 5 < kd
                  · have hd : decide (5 < kd) = true := decide_eq_true khi
                    have hd2 : decide (kd < 1) = false := decide_eq_false klo
                    have hst := left_step (a := ⟨kd, n, .slice A0 bsA.length c0, bsA⟩) a4 a5 (fun h => h5 h.1) HP.out.left
                    have hlen := actR_len kd ((bsA.take 300).length : Int) k xs
                    have hrd : ∀ o, Calls Try.prog 25 #[.pointer (some ⟨r, 0, none⟩), .agg #[.slice Ax bs.length cx, .int .i64 q, .int .i64 k], .agg #[.int .i64 kd, .int .u64 ((bsA.take 300).length : Int), .slice A0 bsA.length c0]] (wr.alloc o) (ReadS (wr.alloc o) r (.slice Ax bs.length cx) bs (actR kd ((bsA.take 300).length : Int) k xs).1 (actR kd ((bsA.take 300).length : Int) k xs).2) := fun o => read_pair HP.out hBr hm60 (by omega) (by have := HSS.out; omega) o
                    rw [show lenA kd n bsA = ((bsA.take 300).length : Int) from if_pos (by omega)] at hst
                    obtain ⟨K, hK⟩ : ∃ K, K = (actR kd ((bsA.take 300).length : Int) k xs).1 := ⟨_, rfl⟩
                    obtain ⟨ts, hts⟩ : ∃ ts, ts = (actR kd ((bsA.take 300).length : Int) k xs).2 := ⟨_, rfl⟩
                    simp only [← hK, ← hts] at hrd hst hlen
                    have HRD := Lib.hid hrd
                    have HST := Lib.hid hst
                    have HLN := Lib.hid hlen
                    clear hrd hst hlen hK hts
                    have hw : IntKind.u64.wrap (((bsA.take 300).length : Nat) : Int) = ((bsA.take 300).length : Nat) := by rw [IntKind.wrap_u64]; have := HSS.out; omega
                    obtain ⟨L, hL⟩ : ∃ L, L = (bsA.take 300).length := ⟨_, rfl⟩
                    simp only [← hL] at hw
                    rw [← hL] at HSH HRD
                    clear hL
                    go_wp2_with fail
                    refine (HSH.out _).mono ?_
                    rintro e w4 ⟨⟨Ay, cy, rfl⟩, rfl⟩
                    go_wp2_with fail
                    refine (HRD.out _).mono ?_
                    rintro e w5 ⟨q2, rfl, hq2, hqd2, v2, hc2, ht2⟩
                    have hbx5 := pair_box HP.out hgr ht2
                    have y0 : ∀ o2, (w5.alloc o2).cell? ⟨g, 0, none⟩ = some (.slice Ax bs.length cx) := fun o2 => cell_of_row _ _ 0 _ _ _ (hbx5 o2)
                    have y1 : ∀ o2, (w5.alloc o2).cell? ⟨g, 1, none⟩ = some (.int .i64 q) := fun o2 => cell_of_row _ _ 1 _ _ _ (hbx5 o2)
                    have y2 : ∀ o2, (w5.alloc o2).cell? ⟨g, 2, none⟩ = some (.int .i64 k) := fun o2 => cell_of_row _ _ 2 _ _ _ (hbx5 o2)
                    have yf : ∀ o2 i, (w5.alloc o2).frozen? ⟨g, i, none⟩ = false := fun o2 i => by have h := hbx5 o2; simp [World.frozen?, h]
                    have hg5 : g ≠ w5.heap.size := by have h1 := (Array.getElem?_eq_some_iff.1 HP.out.box).1; have h2 : wr.heap.size + 1 ≤ w5.heap.size := by simpa using ht2.size
                                                      omega
                    have HT2 := Lib.hid ht2
                    have HC2 := Lib.hid hc2
                    have HQ2 := Lib.hid hqd2
                    clear ht2 hc2 hqd2 hbx5
                    go_wp2
                    refine ⟨⟨j + 1, q2, K, v2, ts, by omega, by omega, by go_num, ?_⟩, by simp [intOf]; omega⟩
                    rw [← HZ.out]
                    exact pair_next HP.out hwB hBr hBg hgr HT2.out HC2.out HQ2.out hq2 HLN.out HST.out
                  · have hd : decide (5 < kd) = false := decide_eq_false khi
                    have hd2 : decide (kd < 1) = false := decide_eq_false klo
                    have hst := left_step (a := ⟨kd, n, .slice A0 bsA.length c0, bsA⟩) a4 a5 (fun h => h5 h.1) HP.out.left
                    have hlen := actR_len kd n k xs
                    have hrd : ∀ o, Calls Try.prog 25 #[.pointer (some ⟨r, 0, none⟩), .agg #[.slice Ax bs.length cx, .int .i64 q, .int .i64 k], .agg #[.int .i64 kd, .int .u64 n, .slice A0 bsA.length c0]] (wr.alloc o) (ReadS (wr.alloc o) r (.slice Ax bs.length cx) bs (actR kd n k xs).1 (actR kd n k xs).2) := fun o => read_pair HP.out hBr hm60 (by omega) (by have := HSS.out; omega) o
                    rw [show lenA kd n bsA = n from if_neg (by omega)] at hst
                    obtain ⟨K, hK⟩ : ∃ K, K = (actR kd n k xs).1 := ⟨_, rfl⟩
                    obtain ⟨ts, hts⟩ : ∃ ts, ts = (actR kd n k xs).2 := ⟨_, rfl⟩
                    simp only [← hK, ← hts] at hrd hst hlen
                    have HRD := Lib.hid hrd
                    have HST := Lib.hid hst
                    have HLN := Lib.hid hlen
                    clear hrd hst hlen hK hts
                    go_wp2_with fail
                    refine (HRD.out _).mono ?_
                    rintro e w5 ⟨q2, rfl, hq2, hqd2, v2, hc2, ht2⟩
                    have hbx5 := pair_box HP.out hgr ht2
                    have y0 : ∀ o2, (w5.alloc o2).cell? ⟨g, 0, none⟩ = some (.slice Ax bs.length cx) := fun o2 => cell_of_row _ _ 0 _ _ _ (hbx5 o2)
                    have y1 : ∀ o2, (w5.alloc o2).cell? ⟨g, 1, none⟩ = some (.int .i64 q) := fun o2 => cell_of_row _ _ 1 _ _ _ (hbx5 o2)
                    have y2 : ∀ o2, (w5.alloc o2).cell? ⟨g, 2, none⟩ = some (.int .i64 k) := fun o2 => cell_of_row _ _ 2 _ _ _ (hbx5 o2)
                    have yf : ∀ o2 i, (w5.alloc o2).frozen? ⟨g, i, none⟩ = false := fun o2 i => by have h := hbx5 o2; simp [World.frozen?, h]
                    have hg5 : g ≠ w5.heap.size := by have h1 := (Array.getElem?_eq_some_iff.1 HP.out.box).1; have h2 : wr.heap.size + 1 ≤ w5.heap.size := by simpa using ht2.size
                                                      omega
                    have HT2 := Lib.hid ht2
                    have HC2 := Lib.hid hc2
                    have HQ2 := Lib.hid hqd2
                    clear ht2 hc2 hqd2 hbx5
                    go_wp2
                    refine ⟨⟨j + 1, q2, K, v2, ts, by omega, by omega, by go_num, ?_⟩, by simp [intOf]; omega⟩
                    rw [← HZ.out]
                    exact pair_next HP.out hwB hBr hBg hgr HT2.out HC2.out HQ2.out hq2 HLN.out HST.out
            · have hd : decide ((j : Int) < 12) = false := decide_eq_false (by omega)
              have he : min len 12 = j := by omega
              have HH := Lib.hid (pair_end he hp)
              clear hp he
              go_wp2_with fail
              go_meet
              exact HH.out
          · have he : min len 12 = j := by omega
            have HH := Lib.hid (pair_end he hp)
            clear hp he
            go_wp2_with fail
            go_meet
            exact HH.out
      case rest =>
        obtain ⟨q, v, xs, hp⟩ := hcut
        have HE := Lib.hid (rerr_any r r v 4 xs wc hp.cu)
        have hcl := rclose_any r r v 4 xs wc hp.cu
        have hcr : closeR 4 xs = 4 := by unfold closeR; rw [if_neg (fun h => absurd h.1 (by decide))]
        rw [hcr] at hcl
        have HCL := Lib.hid hcl
        have z2 : wc.cell? ⟨g, 2, none⟩ = some (.int .i64 4) := cell_of_row _ _ 2 _ _ _ hp.box
        have HP := Lib.hid hp
        clear hcl hcr hp
        go_wp2_with fail
        refine HE.out.mono ?_
        rintro e w6 ⟨rfl, rfl⟩
        go_wp2_with fail
        refine HCL.out.mono ?_
        rintro e w6 ⟨rfl, rfl⟩
        go_wp2
        go_ret
        exact ⟨rfl, HP.out.bel⟩

end Go.Proofs.Ytelbcmcffjpdoaa
