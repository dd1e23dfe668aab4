/-
  WireKeeps: the walk. Conditions: the argument reads as bytes.
-/
import Derived.Test.YtabhebopibfhdaaKept
import Derived.Test.YtabhebopibfhdaaApart
import Derived.Test.YtabhebopibfhdaaPure
import Derived.Laws.BitsAllLaws
namespace Go.Proofs.Ytabhebopibfhdaa
open Go.RowKit

/-- A row of one's own, its block between lo and hi. -/
structure Bag where
  lo : Nat
  hi : Nat
  x : Value
  ys : List UInt8
def Bag.ok (w : World) (p : Bag) : Prop := Mem w p.x p.ys ∧ ∀ k, p.x.ownBlock = some k → p.lo ≤ k ∧ k < p.hi

theorem Bag.ok.turns {S : Nat → Prop} {w w' : World} {p : Bag} (h : p.ok w) (ht : Turns S w w') (hS : ∀ k, S k → k < p.lo ∨ p.hi ≤ k) : p.ok w' :=
  ⟨h.1.turns ht fun k hk e => by have := h.2 k hk; have := hS k e; omega, h.2⟩

theorem bag_of {w' : World} {lo : Nat} {x : Value} {ys : List UInt8} (h : w'.ownsRow lo 5 1 x ys.length (ys.map bv)) : (Bag.mk lo w'.heap.size x ys).ok w' :=
  ⟨⟨h.1, by rcases h.2 with h | ⟨g, cap, cur, e, _, rest⟩; exact .inl h; exact .inr ⟨g, cap, cur, e, Nat.zero_le _, rest⟩⟩, fun k hk => World.ownsRow.lt h k hk⟩

theorem Bag.ok.byt {w : World} {p : Bag} (h : p.ok w) : Byt w w.heap.size p.x p.ys := Byt.of_own h.1

/-- What lives on: the argument, the tinted row, the writer, and the lists. -/
structure Live (w : World) (B g0 gw : Nat) (y : Value) (zs rs : List UInt8) (v : Value) (ws : List UInt8) (bags : List Bag) : Prop where
  byt : Byt w B y zs
  row : Row w g0 rs
  wr : Wr w gw (gw + 1) v ws
  bag : ∀ p ∈ bags, p.ok w

theorem tinted_low_take (zs : List UInt8) : (tinted zs).take zs.length = zs := by
  unfold tinted
  exact List.take_left

theorem Live.turns {S : Nat → Prop} {w w' : World} {B g0 gw : Nat} {y v : Value} {zs rs ws : List UInt8} {bags : List Bag} (h : Live w B g0 gw y zs rs v ws bags) (ht : Turns S w w')
    (hB : B ≤ w.heap.size) (hS : ∀ k, S k → B ≤ k ∧ k ≠ g0 ∧ k ≠ gw ∧ v.ownBlock ≠ some k ∧ ∀ p ∈ bags, k < p.lo ∨ p.hi ≤ k) : Live w' B g0 gw y zs rs v ws bags :=
  ⟨h.byt.below (ht.below_of hB fun i hi e => by have := (hS i e).1; omega), h.row.turns ht (fun e => (hS _ e).2.1 rfl), h.wr.turns ht (fun e => (hS _ e).2.2.1 rfl) (fun k hk e => (hS k e).2.2.2.1 hk),
    fun p hp => (h.bag p hp).turns ht fun k hk => (hS k hk).2.2.2.2 p hp⟩

theorem Live.below {w w' : World} {B g0 gw : Nat} {y v : Value} {zs rs ws : List UInt8} {bags : List Bag} (h : Live w B g0 gw y zs rs v ws bags) (hb : Below w.heap.size w w') (hB : B ≤ w.heap.size) : Live w' B g0 gw y zs rs v ws bags :=
  h.turns (Turns.of_below (S := fun _ => False) hb) hB (fun _ h => h.elim)

theorem Live.add {w : World} {B g0 gw : Nat} {y v : Value} {zs rs ws : List UInt8} {bags : List Bag} (h : Live w B g0 gw y zs rs v ws bags) {p : Bag} (hp : p.ok w) : Live w B g0 gw y zs rs v ws (p :: bags) :=
  ⟨h.byt, h.row, h.wr, fun q hq => by rcases List.mem_cons.1 hq with rfl | hq; exact hp; exact h.bag q hq⟩

theorem Row.low {w : World} {g : Nat} {zs : List UInt8} (h : Row w g (tinted zs)) (hz : zs.length ≤ 300) : Byt w w.heap.size (.slice (some ⟨g, 0, none⟩) zs.length (zs.length + 9)) zs := by
  have h := h.byt (n := zs.length) (c := zs.length + 9) (by rw [tinted_length]; omega) (by omega) (by unfold maxLen; omega)
  rw [tinted_low_take] at h
  exact h

theorem Row.whole {w : World} {g : Nat} {zs : List UInt8} (h : Row w g (tinted zs)) (hz : zs.length ≤ 300) : Byt w w.heap.size (.slice (some ⟨g, 0, none⟩) (zs.length + 9) (zs.length + 9)) (tinted zs) := by
  have h := h.byt (n := zs.length + 9) (c := zs.length + 9) (by rw [tinted_length]; omega) (by omega) (by unfold maxLen; omega)
  rw [List.take_of_length_le (Nat.le_of_eq (tinted_length zs))] at h
  exact h

theorem fresh_bag {w w' : World} {xs : List UInt8} {B g0 gw : Nat} {y v : Value} {zs rs ws : List UInt8} {bags : List Bag} {A : Option Addr} {c : Nat} (h : Live w B g0 gw y zs rs v ws bags) (hB : B ≤ w.heap.size)
    (hown : w'.ownsRow w.heap.size 5 1 (.slice A xs.length c) xs.length (xs.map bv)) (hb : Below w.heap.size w w') : Live w' B g0 gw y zs rs v ws (⟨w.heap.size, w'.heap.size, .slice A xs.length c, xs⟩ :: bags) :=
  (h.below hb hB).add (bag_of hown)

theorem Row.mem {w : World} {g : Nat} {rs : List UInt8} (h : Row w g rs) (hl : rs.length ≤ maxLen) : (Bag.mk g (g + 1) (.slice (some ⟨g, 0, none⟩) rs.length rs.length) rs).ok w := by
  refine ⟨⟨by simp, .inr ⟨g, rs.length, _, rfl, Nat.zero_le _, h, Nat.le_refl _, hl, by simp, ?_⟩⟩, fun k hk => ?_⟩
  · exact List.take_of_length_le (by simp)
  · simp [Value.ownBlock] at hk
    simp only
    omega

def bx (bs : List Bag) (i : Nat) : Value := (bs[i]?.map Bag.x).getD (.slice none 0 0)
def bn (bs : List Bag) (i : Nat) : Nat := (bs[i]?.map fun p => p.ys.length).getD 0
def bc (bs : List Bag) (i : Nat) : List UInt8 := (bs[i]?.map Bag.ys).getD []

theorem lists_of {w : World} {bs : List Bag} (ty : TypeId) (hok : ∀ p ∈ bs, p.ok w) (hd : bs.Pairwise fun p q => p.hi ≤ q.lo ∨ q.hi ≤ p.lo) :
    Lists (w.alloc (.cells (bs.map Bag.x).toArray ty)) w.heap.size bs.length (bx bs) ∧ St (w.alloc (.cells (bs.map Bag.x).toArray ty)) bs.length (bx bs) (bn bs) (bc bs) := by
  have hx : ∀ i (h : i < bs.length), bx bs i = bs[i].x := fun i h => by simp [bx, h]
  have hown : ∀ i (h : i < bs.length) k, bs[i].x.ownBlock = some k → bs[i].lo ≤ k ∧ k < bs[i].hi := fun i h k hk => (hok _ (List.getElem_mem h)).2 k hk
  have hlow : ∀ i (h : i < bs.length) k, bs[i].x.ownBlock = some k → k < w.heap.size := fun i h k hk => (World.ownsRow.lt (hok _ (List.getElem_mem h)).1 k hk).2
  have hpw := List.pairwise_iff_getElem.1 hd
  refine ⟨⟨fun i hi => ?_, fun i j k hi hj hij hk e => ?_, fun i hi e => ?_, fun i k hi hk => ?_⟩, fun j hj => ?_⟩
  · rw [cell_of_row _ w.heap.size i _ _ _ (heap_alloc_new w _)]
    simp [bx, hi]
  · rw [hx i hi] at hk
    rw [hx j hj] at e
    have h1 := hown i hi k hk
    have h2 := hown j hj k e
    rcases Nat.lt_or_ge i j with h | h
    · have := hpw i j hi hj h
      omega
    · have := hpw j i hj hi (by omega)
      omega
  · rw [hx i hi] at e
    have := hlow i hi _ e
    omega
  · rw [hx i hi] at hk
    have := hlow i hi k hk
    simp
    omega
  · have hm := (hok _ (List.getElem_mem hj)).1
    refine ⟨by simp [bc, bn, hj], ?_⟩
    rw [hx j hj]
    have : bc bs j = bs[j].ys := by simp [bc, hj]
    rw [this]
    exact hm.turns ((Turns.refl (fun _ => False) w).alloc _) (fun _ _ h => h)

theorem lists_low {w : World} {bs : List Bag} {B : Nat} (hok : ∀ p ∈ bs, p.ok w) (hB : ∀ p ∈ bs, B ≤ p.lo) (i : Nat) (hi : i < B) : ¬ Any bs.length (bx bs) i := by
  rintro ⟨j, hj, e⟩
  have hx : bx bs j = bs[j].x := by simp [bx, hj]
  rw [hx] at e
  have h1 := (hok _ (List.getElem_mem hj)).2 i e
  have h2 := hB _ (List.getElem_mem hj)
  omega

theorem xor_byte (q : UInt8) : ∃ z : UInt8, Value.int .u8 (bits .xor .u8 (q.toNat : Int) 255) = bv z := by
  have h := u8_xor_nat q.toNat 255 q.toNat_lt (by decide)
  have hlt : q.toNat ^^^ 255 < 2 ^ 8 := Nat.xor_lt_two_pow q.toNat_lt (by decide)
  refine ⟨UInt8.ofNat (q.toNat ^^^ 255), ?_⟩
  have h' : bits .xor .u8 (q.toNat : Int) 255 = ((q.toNat ^^^ 255 : Nat) : Int) := h
  rw [h']
  unfold bv
  rw [UInt8.toNat_ofNat_of_lt' (by simpa using hlt)]

/-- A store into the row. -/
theorem Live.store {w : World} {B g0 gw : Nat} {y v : Value} {zs rs ws : List UInt8} {bags : List Bag} (h : Live w B g0 gw y zs rs v ws bags) (i : Nat) (q : UInt8)
    (hS : B ≤ g0 ∧ g0 ≠ gw ∧ v.ownBlock ≠ some g0 ∧ ∀ p ∈ bags, g0 < p.lo ∨ p.hi ≤ g0) : Live (w.setCell ⟨g0, i, none⟩ (bv q)) B g0 gw y zs (rs.set i q) v ws bags := by
  have ht : Turns (fun k => k = g0) w (w.setCell ⟨g0, i, none⟩ (bv q)) := (Turns.refl (fun k => k = g0) w).setCell (fun _ => rfl) _
  have hg := h.row.lt
  refine ⟨h.byt.below (ht.below_of (by omega) fun j hj e => by omega), h.row.set q, h.wr.turns ht (fun e => hS.2.1 e.symm) (fun k hk e => hS.2.2.1 (by rw [hk, e])), fun p hp => (h.bag p hp).turns ht fun k hk => by
    subst hk
    exact hS.2.2.2 p hp⟩

set_option maxHeartbeats 3200000 in
theorem keeps_any (x : Value) (xs : List UInt8) (w : World) (hx : Byt w w.heap.size x xs) :
    Calls Try.prog 6 #[x] w fun e w' => e = .returned (.bool true) ∧ Below w.heap.size w w' := by
  obtain ⟨i0, hi, hz0, hz1, hz2⟩ := info_parts info_u8
  obtain ⟨A, c, rfl⟩ := hx.form
  obtain ⟨zs, hzs⟩ : ∃ zs, zs = xs.take 300 := ⟨_, rfl⟩
  have hzl : zs.length ≤ 300 := by rw [hzs, List.length_take]; omega
  have hsh := fun (W : World) (h : Below w.heap.size w W) => short_any w.heap.size _ xs W (hx.below h)
  rw [← hzs] at hsh
  have HS := Lib.hid hsh
  clear hsh hzs hx
  go_enter Try.func6, Try.ntmps6
  go_wp2_with fail
  refine (awake_any _).mono ?_
  rintro e w1 ⟨rfl, hb1⟩
  go_wp2_with fail
  refine (HS.out _ hb1).mono ?_
  rintro e w1' ⟨⟨y, rfl, hy⟩, rfl⟩
  obtain ⟨Y, cy, rfl⟩ := hy.form
  obtain ⟨g0, hg0⟩ : ∃ g0, g0 = w1.heap.size := ⟨_, rfl⟩
  have hsp := spare_any w.heap.size _ zs w1 hy hb1.size (by omega)
  rw [← hg0] at hsp
  have hsz1 := hb1.size
  rw [← hg0] at hsz1
  have HP := Lib.hid hsp
  clear hsp hg0
  go_wp2_with fail
  refine HP.out.mono ?_
  rintro e w2 ⟨rfl, hrow, hb2⟩
  have hin2 : Byt w2 w2.heap.size (.slice (some ⟨g0, 0, none⟩) zs.length (zs.length + 9)) zs := by
    have h := hrow.byt (n := zs.length) (c := zs.length + 9) (by rw [tinted_length]; omega) (by omega) (by unfold maxLen; omega)
    rw [tinted_low_take] at h
    exact h
  have hg0lt : g0 < w2.heap.size := hrow.lt
  have hw3 := wr_new w2
  have hl2 : Below w.heap.size w2 (w2.alloc (.cells #[.slice none 0 0] 26)) := (Below.refl _ _).alloc (by omega) _
  have hin3 := hin2.below ((Below.refl w2.heap.size w2).alloc (Nat.le_refl _) (.cells #[.slice none 0 0] 26))
  have hy3 := (hy.below (hb2.mono hsz1)).below hl2
  have hrow3 := hrow.turns ((Turns.refl (fun _ => False) w2).alloc (.cells #[.slice none 0 0] 26)) (fun h => h)
  have hbel3 := ((hb1.trans (hb2.mono hsz1)).trans hl2)
  have hby := bytes_any w2.heap.size (w2.heap.size + 1) w2.heap.size (.slice none 0 0) _ [] zs _ hw3 hin3 (by simp) (by omega) (by simp) (by simp) (Nat.le_refl _) (by intro k hk; cases hk)
  have HY := Lib.hid hby
  have HR3 := Lib.hid hrow3
  have HY3 := Lib.hid hy3
  have HB3 := Lib.hid hbel3
  obtain ⟨gw, hgw⟩ : ∃ gw, gw = w2.heap.size := ⟨_, rfl⟩
  clear hby hrow hin2 hin3 hy hw3 hl2 hrow3 hy3 hbel3 hb2 hb1 HP
  go_wp2_with fail
  refine HY.out.mono ?_
  rintro e w4 ⟨rfl, v4, hw4, ht4, hv4⟩
  rw [List.nil_append] at hw4
  have hsz4 : w2.heap.size + 1 ≤ w4.heap.size := by have := ht4.size; simpa using this
  have hrow4 := HR3.out.turns ht4 (by rintro (e | e); omega; cases e)
  rw [← hgw] at hw4 ht4
  have hbel4 := HB3.out.trans (ht4.below_of (B := w.heap.size) (by simp; omega) (by rintro i hi (e | e); omega; cases e))
  have hy4 := HY3.out.below (ht4.below_of (B := w.heap.size) (by simp; omega) (by rintro i hi (e | e); omega; cases e))
  have hv4' : ∀ k, v4.ownBlock = some k → gw < k := by
    intro k hk
    rcases hv4 with e | ⟨k', e, h⟩
    · rw [e] at hk; cases hk
    · rw [e] at hk
      injection hk with hk
      simp at h
      omega
  obtain ⟨us, hus⟩ : ∃ us, us = sizeB zs.length ++ zs := ⟨_, rfl⟩
  rw [← hus] at hw4
  have hul : us.length ≤ 309 := by
    have := sizeB_le zs.length
    rw [hus, List.length_append]
    omega
  have hin4 : Byt w4 w4.heap.size (.slice (some ⟨g0, 0, none⟩) zs.length (zs.length + 9)) zs := by
    have h := hrow4.byt (n := zs.length) (c := zs.length + 9) (by rw [tinted_length]; omega) (by omega) (by unfold maxLen; omega)
    rw [tinted_low_take] at h
    exact h
  have hra := raw_any gw (gw + 1) w4.heap.size v4 _ us zs w4 hw4 hin4 (by omega) (by omega)
  have HA := Lib.hid hra
  have HR4 := Lib.hid hrow4
  have HY4 := Lib.hid hy4
  have HB4 := Lib.hid hbel4
  have HV4 := Lib.hid hv4'
  have HT4 := Lib.hid hw4
  have hgsz : g0 < gw ∧ gw + 1 ≤ w4.heap.size := by omega
  simp only [← hgw]
  clear hgw hg0lt hsz4 hra hrow4 hy4 hbel4 hv4 hv4' hw4 ht4 hin4 HR3 HY3 HB3 HY
  go_wp2_with fail
  refine HA.out.mono ?_
  rintro e w5 ⟨rfl, v5, hw5, ht5, hv5⟩
  have hsz5 := ht5.size
  have hpost : Live w5 w.heap.size g0 gw (.slice Y zs.length cy) zs (tinted zs) v5 (us ++ zs) [] ∧ Below w.heap.size w w5 := by
    have hk : ∀ k, (k = gw ∨ v4.ownBlock = some k) → gw ≤ k := by
      rintro k (e | e)
      · omega
      · have := HV4.out k e; omega
    have hb : Below w.heap.size w4 w5 := ht5.below_of (by omega) (fun i hi e => by have := hk i e; omega)
    exact ⟨⟨HY4.out.below hb, HR4.out.turns ht5 (fun e => by have := hk _ e; omega), hw5, fun _ h => by cases h⟩, HB4.out.trans hb⟩
  obtain ⟨hlive, hbel⟩ := hpost
  have hvlt : ∀ k, v5.ownBlock = some k → gw < k ∧ k < w5.heap.size := fun k hk => by have := World.ownsRow.lt hw5.2 k hk; omega
  clear hw5 ht5 hv5 HA HR4 HY4 HB4 HV4 HT4
  have s5 : w.heap.size ≤ gw ∧ g0 < gw ∧ gw < w5.heap.size := by omega
  have HL5 := Lib.hid hlive
  have HB5 := Lib.hid hbel
  have HV5 := Lib.hid hvlt
  clear hlive hbel hvlt hsz5 hgsz
  have hou := out_any gw (gw + 1) v5 (us ++ zs) w5 HL5.out.wr (by rw [List.length_append]; omega)
  obtain ⟨ws, hws⟩ : ∃ ws, ws = us ++ zs := ⟨_, rfl⟩
  have hwl : ws.length ≤ 609 := by rw [hws, List.length_append]; omega
  rw [← hws] at hou HL5
  have HWS := Lib.hid hws
  have HO := Lib.hid hou
  clear hou hws
  go_wp2_with fail
  refine HO.out.mono ?_
  rintro e w6 ⟨A1, c1, rfl, hone, hb6⟩
  have HL6 := Lib.hid (fresh_bag HL5.out (by omega) hone hb6)
  have HB6 := Lib.hid (HB5.out.trans (hb6.mono (by omega)))
  have s6 := hb6.size
  clear hone hb6 HL5 HB5 HO
  have HO := Lib.hid (out_any gw (gw + 1) v5 ws w6 HL6.out.wr (by omega))
  go_wp2_with fail
  refine HO.out.mono ?_
  rintro e w7 ⟨A2, c2, rfl, htwo, hb7⟩
  have HL7 := Lib.hid (fresh_bag HL6.out (by omega) htwo hb7)
  have HB7 := Lib.hid (HB6.out.trans (hb7.mono (by omega)))
  have s7 := hb7.size
  clear htwo hb7 HL6 HB6 HO
  have HO := Lib.hid (open_any w7.heap.size _ zs w7 (HL7.out.row.low hzl) (by omega))
  go_wp2_with fail
  refine HO.out.mono ?_
  rintro e w8 ⟨r, vr, rfl, hcu, hr8, hb8⟩
  have HL8 := Lib.hid (HL7.out.below hb8 (by omega))
  have HB8 := Lib.hid (HB7.out.trans (hb8.mono (by omega)))
  have s8 := hb8.size
  have hrr := rraw_any r r vr 0 zs.length zs w8 (by omega) hcu
  have hrw := rawR_app zs []
  rw [List.append_nil] at hrw
  rw [hrw] at hrr
  have HO := Lib.hid hrr
  have HC := Lib.hid hcu
  clear hrr hrw hcu hb8 HL7 HB7
  go_wp2_with fail
  refine HO.out.mono ?_
  rintro e w9 ⟨u3, rfl, A3, c3, rfl, hown3, vr', _, ht9⟩
  have HL9 := Lib.hid ((HL8.out.turns ht9 (by omega) (by
    rintro k rfl
    refine ⟨by omega, by omega, by omega, fun e => by have := HV5.out _ e; omega, fun p hp => ?_⟩
    simp only [List.mem_cons, List.not_mem_nil, or_false] at hp
    rcases hp with rfl | rfl <;> simp only <;> omega)).add (bag_of hown3))
  have HB9 := Lib.hid (HB8.out.trans (ht9.below_of (B := w.heap.size) (by omega) (fun i hi e => by omega)))
  have s9 := ht9.size
  clear hown3 ht9 HL8 HB8 HO HC
  have HO := Lib.hid (open_any w9.heap.size _ ws w9 (HL9.out.bag ⟨w5.heap.size, w6.heap.size, .slice A1 ws.length c1, ws⟩ (by simp)).byt (by omega))
  go_wp2_with fail
  refine HO.out.mono ?_
  rintro e w10 ⟨r2, vr2, rfl, hcu, hr10, hb10⟩
  have HL10 := Lib.hid (HL9.out.below hb10 (by omega))
  have HB10 := Lib.hid (HB9.out.trans (hb10.mono (by omega)))
  have s10 := hb10.size
  have hrr := rlist_any r2 r2 vr2 0 300 ws w10 hcu
  rw [HWS.out, hus, listR_app zs zs 300 (by omega) (by omega)] at hrr
  have HO := Lib.hid hrr
  clear hrr hcu hb10 HL9 HB9
  go_wp2_with fail
  refine HO.out.mono ?_
  rintro e w11 ⟨u4, rfl, A4, c4, rfl, hown4, vr', _, ht11⟩
  have HL11 := Lib.hid ((HL10.out.turns ht11 (by omega) (by
    rintro k rfl
    refine ⟨by omega, by omega, by omega, fun e => by have := HV5.out _ e; omega, fun p hp => ?_⟩
    simp only [List.mem_cons, List.not_mem_nil, or_false] at hp
    rcases hp with rfl | rfl | rfl <;> simp only <;> omega)).add (bag_of hown4))
  have HB11 := Lib.hid (HB10.out.trans (ht11.below_of (B := w.heap.size) (by omega) (fun i hi e => by omega)))
  have s11 := ht11.size
  clear hown4 ht11 HL10 HB10 HO
  have hte := rtext_any w.heap.size _ zs w11 HL11.out.byt (by omega) (by omega)
  rw [← hus] at hte
  have HO := Lib.hid hte
  have HUS := Lib.hid hus
  clear hte hus
  go_wp2_with fail
  refine HO.out.mono ?_
  rintro e w12 ⟨A5, c5, rfl, hown5, hb12⟩
  have HL12 := Lib.hid (HL11.out.below hb12 (by omega))
  have HB12 := Lib.hid (HB11.out.trans (hb12.mono (by omega)))
  have s12 := hb12.size
  have HO5 := Lib.hid hown5
  clear hb12 hown5 HL11 HB11 HO
  have hw6 : us.length + zs.length = ws.length ∧ us.map bv ++ zs.map bv = ws.map bv := by
    rw [HWS.out]
    simp
  have HW6 := Lib.hid hw6
  clear hw6
  go_wp2_with (at_builtin; refine wpList_append_bytes rfl (.tmp 43) (.tmp 44) 24 rfl w11.heap.size 5 i0 slice_u8 hi hz0 hz1 hz2 (.slice A5 us.length c5) us.length (us.map bv) rfl HO5.out w.heap.size (.slice Y zs.length cy) zs rfl HL12.out.byt (by omega) (by omega) ?_; intro v6 w13 hown6 hg6 hat6; rw [HW6.out.1, HW6.out.2] at hown6; obtain ⟨A6, c6, rfl⟩ := own_form hown6; have HO6 := Lib.hid hown6; have HG6 := Lib.hid hg6; clear hown6 hg6 hat6)
  have HL13 := Lib.hid ((HL12.out.turns ((Turns.refl (fun k => (Value.slice A5 us.length c5).ownBlock = some k) w12).grown HG6.out (fun k hk _ => hk)) (by omega) (by
    intro k hk
    have hk5 := World.ownsRow.lt HO5.out k hk
    refine ⟨by omega, by omega, by omega, fun e => by have := HV5.out _ e; omega, fun p hp => ?_⟩
    simp only [List.mem_cons, List.not_mem_nil, or_false] at hp
    rcases hp with rfl | rfl | rfl | rfl <;> simp only <;> omega)).add (bag_of HO6.out))
  have HB13 := Lib.hid (HB12.out.trans (((Turns.refl (fun k => (Value.slice A5 us.length c5).ownBlock = some k) w12).grown HG6.out (fun k hk _ => hk)).below_of (B := w.heap.size) (by omega) (fun i hi e => by have := World.ownsRow.lt HO5.out i e; omega)))
  have s13 := HG6.out.size
  have HO := Lib.hid (kept_yes w13.heap.size w.heap.size _ _ zs w13 (HL13.out.row.whole hzl) HL13.out.byt (by omega))
  clear HO5 HO6 HG6 HW6 HL12 HB12
  refine HO.out.mono ?_
  rintro e w14 ⟨rfl, k14, hk14⟩
  have hb14 : Below w13.heap.size w13 w14 := by rw [hk14]; exact below_drewN (Below.refl _ _) k14
  have HL14 := Lib.hid (HL13.out.below hb14 (by omega))
  have HB14 := Lib.hid (HB13.out.trans (hb14.mono (by omega)))
  have s14 := hb14.size
  clear hk14 hb14 HL13 HB13 HO
  have HO := Lib.hid (equal_yes w14.heap.size w14.heap.size _ _ ws ws w14 (HL14.out.bag ⟨w5.heap.size, w6.heap.size, .slice A1 ws.length c1, ws⟩ (by simp)).byt (HL14.out.bag ⟨w11.heap.size, w13.heap.size, .slice A6 ws.length c6, ws⟩ (by simp)).byt rfl)
  go_wp2_with fail
  refine HO.out.mono ?_
  rintro e w15 ⟨rfl, rfl⟩
  have HO := Lib.hid (equal_yes w14.heap.size w.heap.size _ _ zs zs w14 (HL14.out.bag ⟨w10.heap.size, w11.heap.size, .slice A4 zs.length c4, zs⟩ (by simp)).byt HL14.out.byt rfl)
  go_wp2_with fail
  refine HO.out.mono ?_
  rintro e w15 ⟨rfl, rfl⟩
  clear HO
  go_wp2_with fail
  have HI := Lib.hid hi
  clear hi
  go_loopw [64] (fun s wr => ∃ i : Nat, i ≤ zs.length ∧ s = .int .i64 i ∧ ∃ rs, rs.length = zs.length + 9 ∧ Live wr w.heap.size g0 gw (.slice Y zs.length cy) zs rs v5 ws
      [⟨w11.heap.size, w13.heap.size, .slice A6 ws.length c6, ws⟩, ⟨w10.heap.size, w11.heap.size, .slice A4 zs.length c4, zs⟩, ⟨w8.heap.size, w9.heap.size, .slice A3 zs.length c3, zs⟩,
        ⟨w6.heap.size, w7.heap.size, .slice A2 ws.length c2, ws⟩, ⟨w5.heap.size, w6.heap.size, .slice A1 ws.length c1, ws⟩] ∧ Below w.heap.size w wr ∧ w14.heap.size ≤ wr.heap.size) (fun s _ => zs.length - (intOf s).toNat)
  case atStart => exact ⟨0, Nat.zero_le _, rfl, tinted zs, tinted_length zs, HL14.out, HB14.out, Nat.le_refl _⟩
  case round =>
    clear HL14 HB14
    obtain ⟨i, hil, rfl, rs, hrl, hlive, hbel, hws⟩ := hrel
    by_cases hlt : i < zs.length
    · have hcell := hlive.row.cell (List.getElem?_eq_getElem (by omega : i < rs.length))
      have hfree := hlive.row.free i
      obtain ⟨q, hq⟩ : ∃ q, q = rs[i] := ⟨_, rfl⟩
      rw [← hq] at hcell
      have hcell' : wr.cell? ⟨g0, i, none⟩ = some (.int .u8 (q.toNat : Int)) := hcell
      have HLV := Lib.hid hlive
      have HBL := Lib.hid hbel
      clear hq hlive hbel hcell
      have hxo := xor_byte q
      have HX := Lib.hid hxo
      clear hxo
      go_wp2_with fail
      obtain ⟨z, hz⟩ := HX.out
      rw [hz]
      refine ⟨⟨i + 1, by omega, by go_num, rs.set i z, by rw [List.length_set]; exact hrl, HLV.out.store i z ⟨by omega, by omega, fun e => by have := HV5.out _ e; omega, fun p hp => ?_⟩, HBL.out.setCell hsz1 _, by simpa [World.setCell] using hws⟩, by simp [intOf]; omega⟩
      simp only [List.mem_cons, List.not_mem_nil, or_false] at hp
      rcases hp with rfl | rfl | rfl | rfl | rfl <;> simp only <;> omega
    · have HLV := Lib.hid hlive
      have HBL := Lib.hid hbel
      have HO := Lib.hid (out_any gw (gw + 1) v5 ws wr hlive.wr (by omega))
      clear hlive hbel
      go_wp2_with fail
      refine HO.out.mono ?_
      rintro e w16 ⟨A7, c7, rfl, hown7, hb16⟩
      have HL16 := Lib.hid (fresh_bag HLV.out (by omega) hown7 hb16)
      have HB16 := Lib.hid (HBL.out.trans (hb16.mono (by omega)))
      have s16 := hb16.size
      clear hown7 hb16 HLV HBL HO
      have HO := Lib.hid (equal_yes w16.heap.size w16.heap.size _ _ ws ws w16 (HL16.out.bag ⟨wr.heap.size, w16.heap.size, .slice A7 ws.length c7, ws⟩ (by simp)).byt (HL16.out.bag ⟨w11.heap.size, w13.heap.size, .slice A6 ws.length c6, ws⟩ (by simp)).byt rfl)
      go_wp2_with fail
      refine HO.out.mono ?_
      rintro e w17 ⟨rfl, rfl⟩
      clear HO
      have HO := Lib.hid (equal_yes w16.heap.size w.heap.size _ _ zs zs w16 (HL16.out.bag ⟨w8.heap.size, w9.heap.size, .slice A3 zs.length c3, zs⟩ (by simp)).byt HL16.out.byt rfl)
      go_wp2_with fail
      refine HO.out.mono ?_
      rintro e w17 ⟨rfl, rfl⟩
      clear HO
      have HO := Lib.hid (out_any gw (gw + 1) v5 ws w16 HL16.out.wr (by omega))
      go_wp2_with fail
      refine HO.out.mono ?_
      rintro e w17 ⟨A8, c8, rfl, hown8, hb17⟩
      have HL17 := Lib.hid (fresh_bag HL16.out (by omega) hown8 hb17)
      have HB17 := Lib.hid (HB16.out.trans (hb17.mono (by omega)))
      have s17 := hb17.size
      clear hown8 hb17 HL16 HB16 HO
      obtain ⟨bs, hbs⟩ : ∃ bs : List Bag, bs = [⟨g0, g0 + 1, .slice (some ⟨g0, 0, none⟩) (zs.length + 9) (zs.length + 9), rs⟩, ⟨w5.heap.size, w6.heap.size, .slice A1 ws.length c1, ws⟩, ⟨w6.heap.size, w7.heap.size, .slice A2 ws.length c2, ws⟩,
        ⟨w8.heap.size, w9.heap.size, .slice A3 zs.length c3, zs⟩, ⟨w10.heap.size, w11.heap.size, .slice A4 zs.length c4, zs⟩, ⟨w16.heap.size, w17.heap.size, .slice A8 ws.length c8, ws⟩] := ⟨_, rfl⟩
      have hok : ∀ p ∈ bs, p.ok w17 := by
        intro p hp
        rw [hbs] at hp
        simp only [List.mem_cons, List.not_mem_nil, or_false] at hp
        rcases hp with rfl | rfl | rfl | rfl | rfl | rfl
        · have h := HL17.out.row.mem (by unfold maxLen; omega)
          rw [hrl] at h
          exact h
        all_goals exact HL17.out.bag _ (by simp)
      have hd : bs.Pairwise fun p q => p.hi ≤ q.lo ∨ q.hi ≤ p.lo := by
        rw [hbs]
        simp
        omega
      have hlo : ∀ p ∈ bs, w.heap.size ≤ p.lo := by
        intro p hp
        rw [hbs] at hp
        simp only [List.mem_cons, List.not_mem_nil, or_false] at hp
        rcases hp with rfl | rfl | rfl | rfl | rfl | rfl <;> simp only <;> omega
      have hlen : bs.length = 6 := by rw [hbs]; rfl
      have hls := lists_of 24 hok hd
      have hap := apart_yes w17.heap.size bs.length 6 (bx bs) (bn bs) _ (by omega) hls.1 (fun i hi => by
        have h := (hok _ (List.getElem_mem hi))
        have hb : bn bs i = bs[i].ys.length := by simp [bn, hi]
        rw [hb]
        have hm := List.getElem_mem hi
        generalize bs[i] = p at hm
        rw [hbs] at hm
        simp only [List.mem_cons, List.not_mem_nil, or_false] at hm
        rcases hm with rfl | rfl | rfl | rfl | rfl | rfl <;> simp only <;> omega) ⟨_, hls.2⟩ (by simp)
      have hbel18 : ∀ w18, Turns (Any bs.length (bx bs)) (w17.alloc (.cells (bs.map Bag.x).toArray 24)) w18 → Below w.heap.size w w18 := fun w18 ht =>
        (HB17.out.trans ((Below.refl _ _).alloc (by omega) _)).trans (ht.below_of (by simp; omega) (fun i hi => lists_low hok hlo i hi))
      have hcells : (bs.map Bag.x).toArray = #[.slice (some ⟨g0, 0, none⟩) (zs.length + 9) (zs.length + 9), .slice A1 ws.length c1, .slice A2 ws.length c2, .slice A3 zs.length c3, .slice A4 zs.length c4, .slice A8 ws.length c8] := by rw [hbs]; rfl
      rw [hcells] at hap hbel18
      rw [hlen] at hap
      have HO := Lib.hid hap
      have HE := Lib.hid hbel18
      have HLN := Lib.hid hlen
      clear hap hbel18 hls hok hd hlo hbs hcells hlen HL17 HB17
      go_wp2_with fail
      refine HO.out.mono ?_
      rintro e w18 ⟨rfl, ht18⟩
      have hfin := HE.out w18 (by rw [HLN.out]; exact ht18)
      go_wp2_with fail
      go_ret
      exact ⟨rfl, hfin⟩

end Go.Proofs.Ytabhebopibfhdaa
