/-
  Texts joined: TvE, TvI, Ref. Conditions: those of each.
-/
import Derived.Test.YthelmclpmalofaaDoorK3
import Derived.Test.YthelmclpmalofaaDoorK1
/-
  A transaction's bytes, in plain words. Conditions: none.
-/
namespace Go.Proofs.YthelmclpmalofaaDoor
open Go.RowKit

def tvB (bs : List UInt8) : List UInt8 := sizeB bs.length ++ bs
def tiB (p : InP) : List UInt8 := p.h ++ low p.ix 4 ++ tvB p.sc ++ low p.sq 4
def toB (o : OutP) : List UInt8 := low (o.v % 18446744073709551616) 8 ++ tvB o.sc
def witB (p : InP) : List UInt8 := sizeB p.wt.length ++ p.wt.flatMap tvB
def witnessedF (t : TxP) : Bool := t.ins.any fun p => decide (0 < p.wt.length)
def headB (t : TxP) : List UInt8 := low (t.ver % 4294967296) 4
def insB (l : List InP) : List UInt8 := sizeB l.length ++ l.flatMap tiB
def outsB (l : List OutP) : List UInt8 := sizeB l.length ++ l.flatMap toB
/-- Without witnesses. -/
def encB (t : TxP) : List UInt8 := headB t ++ insB t.ins ++ outsB t.outs ++ low t.lock 4
/-- With them. -/
def encW (t : TxP) : List UInt8 := headB t ++ [0, 1] ++ insB t.ins ++ outsB t.outs ++ t.ins.flatMap witB ++ low t.lock 4
def encF (t : TxP) (wit : Bool) : List UInt8 := if wit && witnessedF t then encW t else encB t

/-- What a law's transactions are at most. -/
structure TxP.fit (t : TxP) : Prop where
  ni : t.ins.length ≤ 20
  no : t.outs.length ≤ 20
  si : ∀ p ∈ t.ins, p.ok ∧ p.sc.length ≤ 1000
  so : ∀ o ∈ t.outs, o.ok ∧ o.sc.length ≤ 1000
theorem tvB_le {bs : List UInt8} (h : bs.length ≤ 1000) : (tvB bs).length ≤ 1009 := by
  have := sizeB_le bs.length
  unfold tvB
  rw [List.length_append]
  omega
theorem tiB_le {p : InP} (h : p.ok) (hs : p.sc.length ≤ 1000) : (tiB p).length ≤ 1049 := by
  have := tvB_le hs
  unfold tiB
  rw [List.length_append, List.length_append, List.length_append, low_length, low_length, h.hl]
  omega
theorem toB_le {o : OutP} (hs : o.sc.length ≤ 1000) : (toB o).length ≤ 1017 := by
  have := tvB_le hs
  unfold toB
  rw [List.length_append, low_length]
  omega
theorem flat_le {α β : Type} (f : α → List β) (m : Nat) : ∀ (l : List α), (∀ a ∈ l, (f a).length ≤ m) → (l.flatMap f).length ≤ l.length * m
  | [], _ => by simp
  | a :: l, h => by
    have h1 := h a (by simp)
    have h2 := flat_le f m l (fun b hb => h b (by simp [hb]))
    rw [List.flatMap_cons, List.length_append, List.length_cons, Nat.add_mul]
    omega
theorem flat_next {α β : Type} (f : α → List β) {l : List α} {i : Nat} {a : α} (h : l[i]? = some a) : (l.take (i + 1)).flatMap f = (l.take i).flatMap f ++ f a := by
  rw [List.take_add_one, h, List.flatMap_append]
  simp
theorem TxP.fit.ins_le {t : TxP} (h : t.fit) (k : Nat) : ((t.ins.take k).flatMap tiB).length ≤ 20980 := by
  have h1 := flat_le tiB 1049 (t.ins.take k) (fun p hp => tiB_le (h.si p (List.mem_of_mem_take hp)).1 (h.si p (List.mem_of_mem_take hp)).2)
  have h2 : (t.ins.take k).length ≤ 20 := by rw [List.length_take]; have := h.ni; omega
  have := Nat.mul_le_mul_right 1049 h2
  omega
theorem TxP.fit.outs_le {t : TxP} (h : t.fit) (k : Nat) : ((t.outs.take k).flatMap toB).length ≤ 20340 := by
  have h1 := flat_le toB 1017 (t.outs.take k) (fun p hp => toB_le (h.so p (List.mem_of_mem_take hp)).2)
  have h2 : (t.outs.take k).length ≤ 20 := by rw [List.length_take]; have := h.no; omega
  have := Nat.mul_le_mul_right 1017 h2
  omega
theorem insB_take (l : List InP) : sizeB l.length ++ (l.take l.length).flatMap tiB = insB l := by rw [List.take_length]; rfl
theorem outsB_take (l : List OutP) : sizeB l.length ++ (l.take l.length).flatMap toB = outsB l := by rw [List.take_length]; rfl
theorem insB_le {t : TxP} (h : t.fit) : (insB t.ins).length ≤ 20989 := by
  have := h.ins_le t.ins.length
  have := sizeB_le t.ins.length
  rw [← insB_take, List.length_append]
  omega
theorem outsB_le {t : TxP} (h : t.fit) : (outsB t.outs).length ≤ 20349 := by
  have := h.outs_le t.outs.length
  have := sizeB_le t.outs.length
  rw [← outsB_take, List.length_append]
  omega
theorem encB_le {t : TxP} (h : t.fit) : (encB t).length ≤ 41346 := by
  have := insB_le h
  have := outsB_le h
  unfold encB headB
  rw [List.length_append, List.length_append, List.length_append, low_length, low_length]
  omega
end Go.Proofs.YthelmclpmalofaaDoor

/-
  writeInput writes an input. Conditions: sizes within the reach.
-/
namespace Go.Proofs.YthelmclpmalofaaDoor
open Go.RowKit

theorem ne_in : (49 : TypeId) ≠ 5 := by decide
/-- The 32 bytes at a row's head, as a slice. -/
theorem hash_byt {w : World} {G : Nat} {t : TypeId} {C : List Value} {h : List UInt8} (hr : VRow w G t C) (hl : h.length = 32) (hc : ∀ (j : Nat) (v : Value), (h.map bv)[j]? = some v → C[j]? = some v) : Byt w (G + 1) (.slice (some ⟨G, 0, none⟩) 32 32) h :=
  ⟨some ⟨G, 0, none⟩, 32, by rw [hl], by omega, by unfold maxLen; omega, (by intro e; cases e), fun _ => ⟨G, 0, rfl, Nat.lt_succ_self _, fun j u hu => by
    rw [Nat.zero_add]
    exact hr.cell (hc j (bv u) (by rw [List.getElem?_map, hu]; rfl))⟩⟩

set_option maxRecDepth 100000 in
set_option maxHeartbeats 1600000 in
theorem writeInput_t {w0 : World} {B g : Nat} (x : InV) (xs : List UInt8) (w : World) (h : WrT w0 w B g xs) (hx : InIs w0 B x) (hs : x.p.sc.length ≤ 1000) (hl : xs.length ≤ 44000) :
    Calls Tryd.prog 57 #[.pointer (some ⟨g, 0, none⟩), .agg (inC x).toArray] w (WrD w0 B g w (xs ++ tiB x.p)) := by
  have hbx := hx.sc
  have hok := hx.ok
  obtain ⟨C, hC⟩ : ∃ C, C = inC x := ⟨_, rfl⟩
  have c32 : C[32]? = some (.int .u32 x.p.ix) := by rw [hC]; exact inC_ix hok
  have c33 : C[33]? = some x.sv := by rw [hC]; exact inC_sc hok
  have c34 : C[34]? = some (.int .u32 x.p.sq) := by rw [hC]; exact inC_sq hok
  have hch : ∀ (j : Nat) (v : Value), (x.p.h.map bv)[j]? = some v → C[j]? = some v := fun j v hv => by rw [hC]; exact inC_hash hv
  have hbl := low_length x.p.ix 4
  have htl : (sizeB x.p.sc.length ++ x.p.sc).length ≤ 1009 := tvB_le hs
  rw [← hC]
  obtain ⟨A, cp, hsf⟩ := hbx.form
  have hG : VRow (w.alloc (.cells C.toArray 49)) w.heap.size 49 C := VRow.new _ _ _
  have hgG : w.heap.size ≠ g := by have := h.lt; omega
  have h1 := h.alloc (.cells C.toArray 49)
  have hk1 : KeepT g w (w.alloc (.cells C.toArray 49)) := KeepT.below ((Below.refl _ w).alloc (Nat.le_refl _) _)
  obtain ⟨w1, hw1⟩ : ∃ z, z = w.alloc (.cells C.toArray 49) := ⟨_, rfl⟩
  obtain ⟨G, hGG⟩ : ∃ G, G = w.heap.size := ⟨_, rfl⟩
  rw [← hw1, ← hGG] at hG
  rw [← hw1] at h1 hk1
  rw [← hGG] at hgG
  have HG := Lib.hid hG
  have H1 := Lib.hid h1
  have HK := Lib.hid hk1
  have HGG := Lib.hid hGG
  have HW1 := Lib.hid hw1
  have C32 := Lib.hid c32
  have C33 := Lib.hid c33
  have C34 := Lib.hid c34
  have HCH := Lib.hid hch
  have HTL := Lib.hid htl
  have HBL := Lib.hid hbl
  have HNG := Lib.hid hgG
  have HOK := Lib.hid hok
  have HBX := Lib.hid hbx
  have HH := Lib.hid hok.hl
  rw [hsf] at C33 HBX
  have i0 := hok.ix0
  have i1 := hok.ix1
  have s0 := hok.sq0
  have s1 := hok.sq1
  obtain ⟨ix, hix⟩ : ∃ n, n = x.p.ix := ⟨_, rfl⟩
  obtain ⟨sq, hsq⟩ : ∃ n, n = x.p.sq := ⟨_, rfl⟩
  rw [← hix] at i0 i1 C32 HBL
  rw [← hsq] at s0 s1 C34
  have HIX := Lib.hid hix
  have HSQ := Lib.hid hsq
  obtain ⟨SC, hSC⟩ : ∃ s, s = x.p.sc := ⟨_, rfl⟩
  rw [← hSC] at C33 HBX HTL hs
  have HSC := Lib.hid hSC
  obtain ⟨HB, hHB⟩ : ∃ s, s = x.p.h := ⟨_, rfl⟩
  rw [← hHB] at HCH HH
  have HHB := Lib.hid hHB
  clear hC c32 c33 c34 hch htl hbl hG h1 hk1 hGG hw1 hgG hok hbx hsf hx h hix hsq hSC hHB
  go_enter Tryd.func57, Tryd.ntmps57
  go_upto_region 1 with fail
  change Code.wp _ _ _ _ (w.alloc (.cells C.toArray 49))
  rw [← HW1.out, show w.heap.size = G from HGG.out.symm]
  clear HW1 HGG
  try dsimp only [Act.put]
  go_wp2_with fail
  refine (raw_t _ HB xs w1 H1.out (hash_byt HG.out HH.out HCH.out) (by rw [HH.out]; omega)).mono ?_
  rintro e w2 ⟨rfl, h2, k2⟩
  have H2 := Lib.hid h2
  have K2 := Lib.hid (HK.out.trans k2)
  have g2 := k2 G _ _ ne_in HNG.out HG.out
  have q32 := g2.cell C32.out
  have G2 := Lib.hid g2
  clear h2 k2 g2
  go_wp2_with fail
  refine (u32_t ix _ w2 H2.out i0 i1 (by rw [List.length_append, HH.out]; omega)).mono ?_
  rintro e w3 ⟨rfl, h3, k3⟩
  have H3 := Lib.hid h3
  have K3 := Lib.hid (K2.out.trans k3)
  have g3 := k3 G _ _ ne_in HNG.out G2.out
  have q33 := g3.cell C33.out
  have G3 := Lib.hid g3
  clear h3 k3 g3 q32
  go_wp2_with fail
  refine (bytes_t _ SC _ w3 H3.out HBX.out (by rw [List.length_append, List.length_append, HH.out, HBL.out]; omega) hs).mono ?_
  rintro e w4 ⟨rfl, h4, k4⟩
  have H4 := Lib.hid h4
  have K4 := Lib.hid (K3.out.trans k4)
  have g4 := k4 G _ _ ne_in HNG.out G3.out
  have q34 := g4.cell C34.out
  clear h4 k4 g4 q33
  go_wp2_with fail
  refine (u32_t sq _ w4 H4.out s0 s1 (by have := HTL.out; rw [List.length_append, List.length_append, List.length_append, HH.out, HBL.out]; omega)).mono ?_
  rintro e w5 ⟨rfl, h5, k5⟩
  have H5 := Lib.hid h5
  have K5 := Lib.hid (K4.out.trans k5)
  clear h5 k5 q34
  go_wp2
  go_end0
  refine ⟨rfl, ?_, K5.out⟩
  have q := H5.out
  rw [List.append_assoc, List.append_assoc, List.append_assoc, ← List.append_assoc HB, ← List.append_assoc (HB ++ low ix 4)] at q
  rw [show tiB x.p = HB ++ low ix 4 ++ (sizeB SC.length ++ SC) ++ low sq 4 by unfold tiB tvB; rw [HHB.out, HIX.out, HSQ.out, HSC.out]]
  exact q
end Go.Proofs.YthelmclpmalofaaDoor

/-
  What Clone, Out and the references' own byte functions do. Conditions: sizes within the reach.
-/
namespace Go.Proofs.YthelmclpmalofaaDoor
open Go.RowKit

/-- A call that hands back a new row of these bytes, and turns nothing that was there. -/
def Fresh (w : World) (xs : List UInt8) (e : Ending) (w' : World) : Prop :=
  ∃ A c, e = .returned (.slice A xs.length c) ∧ w'.ownsRow w.heap.size 5 1 (.slice A xs.length c) xs.length (xs.map bv) ∧ Below w.heap.size w w'

theorem fresh_of {w w' : World} {v : Value} {xs : List UInt8} (h : w'.ownsRow w.heap.size 5 1 v xs.length (xs.map bv)) (hb : Below w.heap.size w w') : Fresh w xs (.returned v) w' := by
  obtain ⟨A, c, rfl⟩ := own_form h
  exact ⟨A, c, rfl, h, hb⟩

set_option maxRecDepth 100000 in
set_option maxHeartbeats 400000 in
theorem clone_any (B : Nat) (x : Value) (xs : List UInt8) (w : World) (hr : Byt w B x xs) (hlen : xs.length ≤ 140737488355328) :
    Calls Tryd.prog 69 #[x] w (Fresh w xs) := by
  obtain ⟨i0, hi, hz0, hz1, hz2⟩ := info_parts info_u8
  obtain ⟨A, c, hx⟩ := hr.form
  subst hx
  rcases A with _ | ad
  · have hnil : xs = [] := by
      obtain ⟨A', c', e, _, _, hA, _⟩ := hr
      exact (hA (Value.slice.inj e).1.symm).1
    subst hnil
    have hq := Lib.run_eql_slice_nil (P := Tryd.prog) w 27 5 none 0 c 0 0 slice_u8
    go_enter Tryd.func69, Tryd.ntmps69
    go_wp2
    go_ret
    exact fresh_of (World.ownsRow_nil _ _ _ _) (Below.refl _ _)
  · have hq := Lib.run_eql_slice_nil (P := Tryd.prog) w 27 5 (some ad) xs.length c 0 0 slice_u8
    have hr1 : Byt (w.alloc (.cells #[] 5)) B (.slice (some ad) xs.length c) xs := by
      obtain ⟨A', c', e, h1, h2, h3, h4⟩ := hr
      refine ⟨A', c', e, h1, h2, h3, fun hne => ?_⟩
      obtain ⟨b, o, e1, hb, hc⟩ := h4 hne
      exact ⟨b, o, e1, hb, fun j u hu => cell_later (Below.alloc (Below.refl _ _) (Nat.le_refl _) _) (hc j u hu)⟩
    have hown : (w.alloc (.cells #[] 5)).ownsRow w.heap.size 5 1 (.slice (some ⟨w.heap.size, 0, none⟩) 0 0) 0 [] :=
      World.ownsRow_made w #[] 0 (Nat.le_refl _) (by unfold maxLen; omega) rfl
    go_enter Tryd.func69, Tryd.ntmps69
    go_wp2_with (at_builtin; refine wpList_append_bytes rfl (.tmp 5) (.tmp 6) 27 rfl w.heap.size 5 i0 slice_u8 hi hz0 hz1 hz2 _ 0 [] rfl hown B _ xs rfl hr1 (by omega) (by simp) ?_; intro v1 w1 hown1 hg1 hat1; obtain ⟨A1, c1, rfl⟩ := own_form hown1)
    go_ret
    rw [Nat.zero_add] at *
    exact fresh_of hown1 ((Below.alloc (Below.refl _ _) (Nat.le_refl _) _).grown hg1 (by simp) (fun k hk => by cases hk; exact Nat.le_refl _))

theorem Wr.byt {w : World} {g base : Nat} {v : Value} {xs : List UInt8} (h : Wr w g base v xs) : Byt w w.heap.size v xs := Byt.of_own h.2

set_option maxRecDepth 100000 in
set_option maxHeartbeats 400000 in
theorem out_any (g base : Nat) (v : Value) (xs : List UInt8) (w : World) (hw : Wr w g base v xs) (hlen : xs.length ≤ 60000) :
    Calls Tryd.prog 54 #[.pointer (some ⟨g, 0, none⟩)] w (Fresh w xs) := by
  have hc := hw.cell
  obtain ⟨A, c, rfl⟩ := own_form hw.2
  go_enter Tryd.func54, Tryd.ntmps54
  go_wp2_with fail
  refine (clone_any w.heap.size _ xs w hw.byt (by omega)).mono ?_
  rintro e w1 ⟨A1, c1, rfl, hown1, hb1⟩
  go_wp2
  go_ret
  exact ⟨_, _, rfl, hown1, hb1⟩

set_option maxRecDepth 100000 in
set_option maxHeartbeats 400000 in
theorem equal_any (B B' : Nat) (x y : Value) (xs ys : List UInt8) (w : World) (hx : Byt w B x xs) (hy : Byt w B' y ys) :
    Calls Tryd.prog 37 #[x, y] w fun e w' => e = .returned (.bool (xs == ys)) ∧ w = w' := by
  have h1 := run_string_of (P := Tryd.prog) w 27 9 5 slice_u8 Tryd.underlying5 Tryd.underlying9 B x xs hx
  have h2 := run_string_of (P := Tryd.prog) w 27 9 5 slice_u8 Tryd.underlying5 Tryd.underlying9 B' y ys hy
  go_enter Tryd.func37, Tryd.ntmps37
  go_wp2
  go_ret
  exact ⟨rfl, rfl⟩

theorem equal_yes (B B' : Nat) (x y : Value) (xs ys : List UInt8) (w : World) (hx : Byt w B x xs) (hy : Byt w B' y ys) (h : xs = ys) :
    Calls Tryd.prog 37 #[x, y] w fun e w' => e = .returned (.bool true) ∧ w = w' :=
  (equal_any B B' x y xs ys w hx hy).mono fun _ _ ⟨he, hw⟩ => ⟨by rw [he, h]; simp, hw⟩

theorem Byt.take_ {w : World} {B c : Nat} {A : Option Addr} {xs : List UInt8} (h : Byt w B (.slice A xs.length c) xs) {k : Nat} (hk : k ≤ xs.length) : Byt w B (.slice A k c) (xs.take k) := by
  obtain ⟨A', c', e, h1, h2, h3, h4⟩ := h
  injection e with e1 e2 e3
  subst e1 e3
  refine ⟨A, c, by rw [List.length_take, Nat.min_eq_left hk], by rw [List.length_take]; omega, h2, fun h => ?_, fun hne => ?_⟩
  · obtain ⟨rfl, hc⟩ := h3 h
    exact ⟨by simp, hc⟩
  · obtain ⟨b, o, e1, hb, hc⟩ := h4 (by rintro rfl; simp at hne)
    refine ⟨b, o, e1, hb, fun j u hu => hc j u ?_⟩
    rw [List.getElem?_take] at hu
    split at hu
    · exact hu
    · cases hu

theorem low_split (m : Int) (k : Nat) (hk : 0 < k) : low m k = b8 m :: low (m / 256) (k - 1) := by
  obtain ⟨k, rfl⟩ : ∃ j, k = j + 1 := ⟨k - 1, by omega⟩
  rfl

theorem low_step {n m : Int} {k : Nat} {zs : List UInt8} (hlt : zs.length < k) (h : low n k = zs ++ low m (k - zs.length)) : low n k = (zs ++ [b8 m]) ++ low (m / 256) (k - (zs ++ [b8 m]).length) := by
  rw [h, low_split m _ (by omega), List.length_append]
  simp
  congr 1

set_option maxRecDepth 100000 in
set_option maxHeartbeats 400000 in
theorem low_any (n : Int) (k : Nat) (w : World) (h0 : 0 ≤ n) (h1 : n < 18446744073709551616) (hk : k ≤ 8) :
    Calls Tryd.prog 48 #[.int .u64 n, .int .i64 (k : Int)] w (Fresh w (low n k)) := by
  obtain ⟨i0, hi, hz0, hz1, hz2⟩ := info_parts info_u8
  go_enter Tryd.func48, Tryd.ntmps48
  go_wp2
  go_loopw [0, 5, 6] (fun x v i wr => ∃ (m : Int) (zs : List UInt8), zs.length ≤ k ∧ i = .int .i64 (zs.length : Int) ∧ x = .int .u64 m ∧ 0 ≤ m ∧ m < 18446744073709551616 ∧ Hid (low n k = zs ++ low m (k - zs.length)) ∧
      wr.ownsRow w.heap.size 5 1 v zs.length (zs.map bv) ∧ Below w.heap.size w wr)
    (fun _ _ i _ => k - (intOf i).toNat)
  case atStart => exact ⟨n, [], by simp, rfl, rfl, h0, h1, rfl, World.ownsRow_nil _ _ _ _, Below.refl _ _⟩
  case round =>
    obtain ⟨m, zs, hz, rfl, rfl, hm0, hm1, hlow, hown, hbel⟩ := hrel
    by_cases hlt : zs.length < k
    · have hmade : Byt (wr.alloc (.cells #[.int .u8 (m % 256)] 5)) (wr.heap.size + 1) (.slice (some ⟨wr.heap.size, 0, none⟩) 1 1) [b8 m] := Byt.made wr _ [_] [b8 m] (by simp [bv_b8]) (by unfold maxLen; simp)
      go_wp2_with (at_builtin; refine wpList_append_bytes rfl (.tmp 12) (.tmp 16) 27 rfl w.heap.size 5 i0 slice_u8 hi hz0 hz1 hz2 _ zs.length (zs.map bv) rfl (hown.alloc _) (wr.heap.size + 1) _ [b8 m] rfl hmade (by simp; omega) (by have := hbel.size; simp; omega) ?_; intro v1 w1 hown1 hg1 hat1)
      have hstep := low_step hlt hlow.out
      have HS := Lib.hid hstep
      clear hstep
      have hb1 : Below w.heap.size w w1 := (hbel.alloc hbel.size _).grown hg1 (by have := hbel.size; simp; omega) (fun j hj => (hown.lt j hj).1)
      go_roundw
      case rel => exact ⟨m / 256, zs ++ [b8 m], by simp; omega, by simp, rfl, by omega, by omega, HS, by simpa using hown1, hb1⟩
      case measure => simp [intOf]; omega
    · go_wp2
      go_ret
      have hzk : zs.length = k := by omega
      have : low n k = zs := by
        have h := hlow.out
        rw [hzk, Nat.sub_self] at h
        simpa [low] using h
      rw [this]
      exact fresh_of hown hbel


theorem own_made (w : World) (e : TypeId) (l : List Value) (ys : List UInt8) (h : l = ys.map bv) (hl : ys.length ≤ maxLen) :
    (w.alloc (.cells l.toArray e)).ownsRow w.heap.size e 1 (.slice (some ⟨w.heap.size, 0, none⟩) ys.length ys.length) ys.length (ys.map bv) := by
  refine ⟨by simp, .inr ⟨w.heap.size, ys.length, l.toArray, rfl, Nat.le_refl _, heap_alloc_new w _, Nat.le_refl _, hl, by simp [h], ?_⟩⟩
  rw [h]
  exact List.take_of_length_le (by simp)

theorem Fresh.pre {w w1 w2 : World} {xs : List UInt8} {e : Ending} (hb : Below w.heap.size w w1) (h : Fresh w1 xs e w2) : Fresh w xs e w2 := by
  obtain ⟨A, c, he, hown, hb2⟩ := h
  refine ⟨A, c, he, ⟨hown.1, ?_⟩, hb.trans (hb2.mono hb.size)⟩
  rcases hown.2 with h | ⟨g, cap, cur, hv, hg, r⟩
  · exact .inl h
  · exact .inr ⟨g, cap, cur, hv, Nat.le_trans hb.size hg, r⟩

theorem low_num (n : Int) (k : Nat) (q : Int) (hq : q = k) (w : World) (h0 : 0 ≤ n) (h1 : n < 18446744073709551616) (hk : k ≤ 8) :
    Calls Tryd.prog 48 #[.int .u64 n, .int .i64 q] w (Fresh w (low n k)) := by
  subst hq
  exact low_any n k w h0 h1 hk

/-- What a longer size's three calls leave: its first byte's row, the number's row behind it, both joined. -/
theorem size_join {w w1 w2 : World} {b : UInt8} {l : List Value} {zs : List UInt8} {A : Option Addr} {c : Nat} {v2 : Value} (_hl : l = [b].map bv)
    (hb1 : Below (w.alloc (.cells l.toArray 5)).heap.size (w.alloc (.cells l.toArray 5)) w1)
    (_hz : w1.ownsRow (w.alloc (.cells l.toArray 5)).heap.size 5 1 (.slice A zs.length c) zs.length (zs.map bv))
    (hown2 : w2.ownsRow w.heap.size 5 1 v2 (1 + zs.length) ([b].map bv ++ zs.map bv)) (hg2 : w1.grownBy w2 (some w.heap.size)) : Fresh w (b :: zs) (.returned v2) w2 := by
  have h := hb1.size
  simp at h
  refine fresh_of (by simpa [Nat.add_comm] using hown2) ?_
  exact (((Below.refl w.heap.size w).alloc (Nat.le_refl _) _).trans (hb1.mono (by simp))).grown hg2 (by omega) (fun k hk => by cases hk; exact Nat.le_refl _)

set_option maxRecDepth 100000 in
set_option maxHeartbeats 800000 in
theorem rsize_any (n : Int) (w : World) (h0 : 0 ≤ n) (h1 : n < 18446744073709551616) :
    Calls Tryd.prog 63 #[.int .u64 n] w (Fresh w (sizeB n)) := by
  obtain ⟨i0, hi, hz0, hz1, hz2⟩ := info_parts info_u8
  by_cases c1 : n < 253
  · have hl : sizeB n = [b8 n] := by unfold sizeB; rw [if_pos c1]
    have hm := own_made w 5 [.int .u8 n] [b8 n] (by simp [bv_b8_of h0 (by omega : n < 256)]) (by unfold maxLen; simp)
    have HL := Lib.hid hl; clear hl
    go_enter Tryd.func63, Tryd.ntmps63
    go_wp2
    go_ret
    rw [HL.out]
    exact fresh_of hm ((Below.refl _ _).alloc (Nat.le_refl _) _)
  by_cases c2 : n < 65536
  · have hl : sizeB n = b8 253 :: low n 2 := by unfold sizeB; rw [if_neg c1, if_pos c2]
    have hm := own_made w 5 [.int .u8 253] [b8 253] rfl (by unfold maxLen; simp)
    have HL := Lib.hid hl; clear hl
    go_enter Tryd.func63, Tryd.ntmps63
    go_wp2_with fail
    refine (low_num n 2 _ rfl _ h0 h1 (by omega)).mono ?_
    rintro e w1 ⟨A, c, rfl, hown, hb1⟩
    have hm1 := own_turns hm (Turns.of_below (S := fun _ => False) hb1) (fun _ _ h => h)
    go_wp2_with (at_builtin; refine wpList_append_bytes rfl (.tmp 12) (.tmp 14) 27 rfl w.heap.size 5 i0 slice_u8 hi hz0 hz1 hz2 _ 1 _ rfl hm1 w1.heap.size _ (low n 2) rfl (Byt.of_own hown) (by simp [low_length]) (by have := hb1.size; simp at this; omega) ?_; intro v2 w2 hown2 hg2 hat2)
    go_ret
    rw [HL.out]
    exact size_join rfl hb1 hown hown2 hg2
  by_cases c3 : n < 4294967296
  · have hl : sizeB n = b8 254 :: low n 4 := by unfold sizeB; rw [if_neg c1, if_neg c2, if_pos c3]
    have hm := own_made w 5 [.int .u8 254] [b8 254] rfl (by unfold maxLen; simp)
    have HL := Lib.hid hl; clear hl
    go_enter Tryd.func63, Tryd.ntmps63
    go_wp2_with fail
    refine (low_num n 4 _ rfl _ h0 h1 (by omega)).mono ?_
    rintro e w1 ⟨A, c, rfl, hown, hb1⟩
    have hm1 := own_turns hm (Turns.of_below (S := fun _ => False) hb1) (fun _ _ h => h)
    go_wp2_with (at_builtin; refine wpList_append_bytes rfl (.tmp 19) (.tmp 21) 27 rfl w.heap.size 5 i0 slice_u8 hi hz0 hz1 hz2 _ 1 _ rfl hm1 w1.heap.size _ (low n 4) rfl (Byt.of_own hown) (by simp [low_length]) (by have := hb1.size; simp at this; omega) ?_; intro v2 w2 hown2 hg2 hat2)
    go_ret
    rw [HL.out]
    exact size_join rfl hb1 hown hown2 hg2
  · have hl : sizeB n = b8 255 :: low n 8 := by unfold sizeB; rw [if_neg c1, if_neg c2, if_neg c3]
    have hm := own_made w 5 [.int .u8 255] [b8 255] rfl (by unfold maxLen; simp)
    have HL := Lib.hid hl; clear hl
    go_enter Tryd.func63, Tryd.ntmps63
    go_wp2_with fail
    refine (low_num n 8 _ rfl _ h0 h1 (by omega)).mono ?_
    rintro e w1 ⟨A, c, rfl, hown, hb1⟩
    have hm1 := own_turns hm (Turns.of_below (S := fun _ => False) hb1) (fun _ _ h => h)
    go_wp2_with (at_builtin; refine wpList_append_bytes rfl (.tmp 23) (.tmp 25) 27 rfl w.heap.size 5 i0 slice_u8 hi hz0 hz1 hz2 _ 1 _ rfl hm1 w1.heap.size _ (low n 8) rfl (Byt.of_own hown) (by simp [low_length]) (by have := hb1.size; simp at this; omega) ?_; intro v2 w2 hown2 hg2 hat2)
    go_ret
    rw [HL.out]
    exact size_join rfl hb1 hown hown2 hg2

set_option maxRecDepth 100000 in
set_option maxHeartbeats 400000 in
theorem rtext_any (B : Nat) (x : Value) (ys : List UInt8) (w : World) (hr : Byt w B x ys) (hB : B ≤ w.heap.size) (hy : ys.length ≤ 60000) :
    Calls Tryd.prog 49 #[x] w (Fresh w (sizeB ys.length ++ ys)) := by
  obtain ⟨i0, hi, hz0, hz1, hz2⟩ := info_parts info_u8
  obtain ⟨A, c, rfl⟩ := hr.form
  have hsl := sizeB_le ys.length
  go_enter Tryd.func49, Tryd.ntmps49
  go_wp2_with fail
  refine (rsize_any _ _ (by omega) (by omega)).mono ?_
  rintro e w1 ⟨A1, c1, rfl, hown, hb1⟩
  have hr1 := hr.below (hb1.mono hB)
  go_wp2_with (at_builtin; refine wpList_append_bytes rfl (.tmp 6) (.tmp 7) 27 rfl w.heap.size 5 i0 slice_u8 hi hz0 hz1 hz2 _ _ _ rfl hown B _ ys rfl hr1 (by omega) hb1.size ?_; intro v2 w2 hown2 hg2 hat2)
  go_ret
  refine fresh_of (by simpa using hown2) (hb1.grown hg2 hb1.size (fun k hk => (hown.lt k hk).1))

end Go.Proofs.YthelmclpmalofaaDoor
