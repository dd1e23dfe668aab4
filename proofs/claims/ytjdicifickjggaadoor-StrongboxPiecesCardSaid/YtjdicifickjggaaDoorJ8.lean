/-
  Texts joined: HOpen, StPure, StBag, StP, St24. Conditions: those of each.
-/
import Derived.Test.YtjdicifickjggaaDoorJ7
import Derived.Test.YtjdicifickjggaaDoorRows
import Derived.Test.YtjdicifickjggaaDoorCards
import Derived.Test.YtjdicifickjggaaDoorTie
import Derived.SevenTiedAt
import Derived.ChangeSame
import Derived.JoinedOf
import Derived.JoinedAt
import Derived.LaidMore
import Derived.LaidHandle
import Derived.Stop.Joined
import Derived.Deep.Slices
import Derived.Deep.Fields
import Derived.ProofKit
import Derived.OpenShut
import Derived.ChangeOld
import Derived.SizedLaws
import Derived.ChangeMaps5
import Derived.Lib.LaidTab
import Derived.Test.YtjdicifickjggaaDoorJ2
import Derived.Test.YtjdicifickjggaaDoorJ3
import Derived.Stop.BytesEq
import Derived.Deep.RegionHeld
import Derived.OrdersHeld
/-
  From an argument that can be read as data to bytes in memory; and from the rows' listed variables to the roots that the walks read; a start that meets the condition. Conditions: none.
-/
namespace Go.Proofs.YtjdicifickjggaaDoor
open Go.ChangeShapes Go.WideShapes Go.ChangeAt Go.RowKit Go.Deep

theorem b8_bv {k : Int} (h0 : 0 ≤ k) (h1 : k ≤ 255) : bv (b8 k) = .int .u8 k := bv_b8_of h0 (by omega)

theorem add_at (b o i : Nat) : (⟨b, o, none⟩ : Addr).add i = ⟨b, o + i, none⟩ := by unfold Addr.add; split <;> simp_all

theorem spot_none {w : World} {a : Addr} {v : Value} (h : w.cell? a = some v) : a = ⟨a.block, a.off, none⟩ := by
  have := World.cell?_spot h
  cases a
  simp_all

/-- A slice of bytes that came in. -/
theorem byt_open {H : Type} {enc : TypeId × Value → H} {P : Program} {w : World} {spare : Nat → Bool} {held : Bool} {fuel : Nat} {t e : TypeId} {v : Value} {x : DataW H × List MemPlace}
    (ht : P.underlying t = some (.slice e)) (he : P.underlying e = some (.int .u8)) (hc : P.cellsOf e = 1) (h : DataW.trod enc P w 0 spare held fuel t [v] = some x) : ∃ bs, Byt w w.heap.size v bs := by
  rcases open_ints ht he hc h with ⟨hcs, _⟩ | ⟨a, len, cap, zs, hcs, _, hl, hm, hz, _, hcell, hwf⟩
  · simp only [List.cons.injEq, and_true] at hcs
    subst hcs
    exact ⟨[], Byt.nil _ _⟩
  · simp only [List.cons.injEq, and_true] at hcs
    subst hcs
    have hlz : len ≤ zs.length := by rw [hz]; split <;> omega
    have hlen : ((zs.take len).map b8).length = len := by simp; omega
    refine ⟨(zs.take len).map b8, some a, cap, by rw [hlen], by rw [hlen]; exact hl, hm, (by intro h; cases h), fun hne => ?_⟩
    have hpos : 0 < len := by
      rcases Nat.eq_zero_or_pos len with h0 | h0
      · rw [h0] at hne; simp at hne
      · exact h0
    have h0 := hcell 0 (by omega)
    have hadd0 : a.add 0 = a := by unfold Addr.add; simp
    rw [hadd0] at h0
    have hsp := spot_none h0
    refine ⟨a.block, a.off, by rw [← hsp], World.block_lt_of_cell? _ _ h0, fun j u hu => ?_⟩
    have hj : j < len := by
      have := (List.getElem?_eq_some_iff.1 hu).1
      omega
    have hcj := hcell j (by omega)
    have hadd : a.add j = ⟨a.block, a.off + j, none⟩ := (congrArg (fun q : Addr => q.add j) hsp).trans (add_at _ _ _)
    rw [hadd] at hcj
    rw [hcj]
    have hzj : zs.getD j 0 = zs[j]'(by omega) := by rw [List.getD, List.getElem?_eq_getElem (show j < zs.length by omega)]; rfl
    rw [List.getElem?_map, List.getElem?_take, if_pos hj, List.getElem?_eq_getElem (by omega)] at hu
    simp at hu
    subst hu
    have hw := hwf (zs[j]'(by omega)) (List.getElem_mem _)
    rw [hzj]
    have hw2 := bounds_u8 hw
    rw [b8_bv]
    · exact hw2.1
    · have := hw2.2
      omega

theorem own : ownKnob Tryd.prog.godebug = none := by kernel_rfl
theorem laidOut : laidOutB Tryd.prog = true := by kernel_rfl

def laidL : List (String × DataW Unit) := [("strongbox/hash.squareRoots", Rows.laid_strongbox_hash_squareRoots), ("strongbox/hash.cubeRoots", Rows.laid_strongbox_hash_cubeRoots)]

theorem door_met (os : Os) (args : Array Value) : laidMetH Tryd.prog laidL ((World.doorLaid Tryd.prog 400 os).forCall (fun _ _ => 0) ⟨#[], args, []⟩).memory :=
  laidMetH_of_parts3 (fuel := 8) (laidMet_of_run' 8 (by kernel_rfl) (by kernel_rfl)) (by kernel_rfl) (by kernel_rfl)

theorem roots_of_laid {W : World} (h : laidMetH Tryd.prog laidL W) : Roots W := by
  rw [MakeChecks.laidMetH_plain _ _ _ (by kernel_rfl)] at h
  obtain ⟨ps, ⟨g0, t0, cs0, f0, p0, q0, hg0, ht0, hv0, hd0, ⟨g1, t1, cs1, f1, p1, q1, hg1, ht1, hv1, hd1, _, _⟩, _⟩, _, _⟩ := h
  obtain rfl := Option.some.inj ((show Tryd.prog.globalNamed "strongbox/hash.squareRoots" = some 0 by kernel_rfl).symm.trans hg0)
  obtain rfl := Option.some.inj ((show (Tryd.prog.globals[0]?).map (·.type) = some 88 by kernel_rfl).symm.trans ht0)
  obtain rfl := Option.some.inj ((show Tryd.prog.globalNamed "strongbox/hash.cubeRoots" = some 1 by kernel_rfl).symm.trans hg1)
  obtain rfl := Option.some.inj ((show (Tryd.prog.globals[1]?).map (·.type) = some 95 by kernel_rfl).symm.trans ht1)
  have e0 : (Rows.laid_strongbox_hash_squareRoots : DataW Unit) = Lib.tabData .u64 s512 := by kernel_rfl
  have e1 : (Rows.laid_strongbox_hash_cubeRoots : DataW Unit) = Lib.tabData .u64 k512 := by kernel_rfl
  rw [e0] at hd0
  rw [e1] at hd1
  have c0 := Lib.cells_of_tab Tryd.underlying88 Tryd.underlying30 (by kernel_rfl) (by kernel_rfl) hd0
  have c1 := Lib.cells_of_tab Tryd.underlying95 Tryd.underlying30 (by kernel_rfl) (by kernel_rfl) hd1
  have k0 : ∀ (t : Nat) (k : Int), s512[t]? = some k → W.cell? ⟨0, t, none⟩ = some (.int .u64 k) := fun t k hk => by
    have h := World.var?_cell hg0 hv0 t
    rw [h, ← Array.getElem?_toList, c0, List.getElem?_map, hk]
    rfl
  have k1 : ∀ (t : Nat) (k : Int), k512[t]? = some k → W.cell? ⟨1, t, none⟩ = some (.int .u64 k) := fun t k hk => by
    have h := World.var?_cell hg1 hv1 t
    rw [h, ← Array.getElem?_toList, c1, List.getElem?_map, hk]
    rfl
  exact ⟨⟨World.block_lt_of_cell? _ _ (k1 0 _ rfl), k1⟩, ⟨World.block_lt_of_cell? _ _ (k0 0 _ rfl), k0⟩⟩
end Go.Proofs.YtjdicifickjggaaDoor

/-
  What was written is read again: plain facts on lists of bytes. Conditions: none.
-/
namespace Go.Proofs.YtjdicifickjggaaDoor

theorem val_low (k : Nat) : ∀ n : Int, 0 ≤ n → val (low n k) = n % 256 ^ k := by
  induction k with
  | zero => intro n _; simp [low, val, Int.emod_one]
  | succ k ih =>
    intro n hn
    have h := ih (n / 256) (by omega)
    simp only [low, val, b8_toNat, h]
    have hp : (0 : Int) < 256 ^ k := Int.pow_pos (by decide)
    rw [Int.pow_succ, Int.mul_comm (256 ^ k) 256]
    have e1 : n % (256 * 256 ^ k) = n % 256 + 256 * (n / 256 % 256 ^ k) := by
      have h1 : n = 256 * (n / 256) + n % 256 := (Int.mul_ediv_add_emod n 256).symm
      have h2 : n / 256 = 256 ^ k * (n / 256 / 256 ^ k) + n / 256 % 256 ^ k := (Int.mul_ediv_add_emod (n / 256) (256 ^ k)).symm
      have h3 : 0 ≤ n / 256 % 256 ^ k ∧ n / 256 % 256 ^ k < 256 ^ k := ⟨Int.emod_nonneg _ (by omega), Int.emod_lt_of_pos _ hp⟩
      have h4 : n = (n % 256 + 256 * (n / 256 % 256 ^ k)) + (256 * 256 ^ k) * (n / 256 / 256 ^ k) := by
        have h5 : 256 * (n / 256) = 256 * (256 ^ k * (n / 256 / 256 ^ k)) + 256 * (n / 256 % 256 ^ k) := by
          rw [← Int.mul_add]; exact congrArg (fun q => 256 * q) h2
        rw [Int.mul_assoc]
        omega
      have h6 : (n % 256 + 256 * (n / 256 % 256 ^ k)) % (256 * 256 ^ k) = n % 256 + 256 * (n / 256 % 256 ^ k) := by
        apply Int.emod_eq_of_lt
        · omega
        · omega
      calc n % (256 * 256 ^ k) = ((n % 256 + 256 * (n / 256 % 256 ^ k)) + (256 * 256 ^ k) * (n / 256 / 256 ^ k)) % (256 * 256 ^ k) := by rw [← h4]
        _ = (n % 256 + 256 * (n / 256 % 256 ^ k)) % (256 * 256 ^ k) := by rw [Int.add_mul_emod_self_left]
        _ = _ := h6
    rw [e1]

theorem take_app {us bs : List UInt8} {k : Nat} (h : us.length = k) : (us ++ bs).take k = us := by rw [← h, List.take_left]
theorem drop_app {us bs : List UInt8} {k : Nat} (h : us.length = k) : (us ++ bs).drop k = bs := by rw [← h, List.drop_left]

theorem numR_low (n : Int) (k : Nat) (ys : List UInt8) (hn : 0 ≤ n) : numR k 0 (low n k ++ ys) = (n % 256 ^ k, 0, ys) := by
  unfold numR
  rw [if_neg (by decide), if_neg (by rw [List.length_append, low_length]; omega), take_app (low_length n k), drop_app (low_length n k), val_low k n hn]

theorem numR_one (n : Int) (ys : List UInt8) (hn : 0 ≤ n) : numR 1 0 (b8 n :: ys) = (n % 256, 0, ys) := by
  have h := numR_low n 1 ys hn
  simpa [low] using h

theorem val_one (c : UInt8) : val [c] = c.toNat := by simp [val]

theorem sizeP_sizeB (n : Int) (ys : List UInt8) (h0 : 0 ≤ n) (h1 : n < 18446744073709551616) : sizeP (sizeB n ++ ys) = if n > 33554432 then .error 2 else .ok (n, ys) := by
  have hb : ∀ (c : UInt8) (zs : List UInt8), val ((c :: zs).take 1) = c.toNat := fun c zs => by simp [val]
  have long : ∀ (m : Int) (k : Nat), (m = 253 ∧ k = 2) ∨ (m = 254 ∧ k = 4) ∨ (m = 255 ∧ k = 8) → sizeB n = b8 m :: low n k → sizeLen n = 1 + k → n < 256 ^ k →
      sizeP (sizeB n ++ ys) = if n > 33554432 then .error 2 else .ok (n, ys) := by
    intro m k hm hs hl hlt
    have hm0 : m % 256 = m := by rcases hm with ⟨rfl, _⟩ | ⟨rfl, _⟩ | ⟨rfl, _⟩ <;> rfl
    have hwd : wd m = k := by rcases hm with ⟨rfl, rfl⟩ | ⟨rfl, rfl⟩ | ⟨rfl, rfl⟩ <;> rfl
    have hge : ¬ m < 253 := by rcases hm with ⟨rfl, _⟩ | ⟨rfl, _⟩ | ⟨rfl, _⟩ <;> decide
    rw [hs, List.cons_append]
    unfold sizeP
    rw [if_neg (by simp), hb, b8_toNat, hm0, if_neg hge, hwd]
    have hd : (b8 m :: (low n k ++ ys)).drop 1 = low n k ++ ys := rfl
    rw [hd, if_neg (by rw [List.length_append, low_length]; omega), take_app (low_length n k), drop_app (low_length n k), val_low k n h0, Int.emod_eq_of_lt h0 hlt, hl, if_neg (by simp)]
  by_cases c1 : n < 253
  · have hs : sizeB n = [b8 n] := by unfold sizeB; rw [if_pos c1]
    rw [hs, if_neg (by omega)]
    unfold sizeP
    rw [if_neg (by simp), List.cons_append, hb, b8_toNat, if_pos (by omega)]
    have : n % 256 = n := by omega
    rw [this]
    rfl
  by_cases c2 : n < 65536
  · exact long 253 2 (.inl ⟨rfl, rfl⟩) (by unfold sizeB; rw [if_neg c1, if_pos c2]) (by unfold sizeLen; rw [if_neg c1, if_pos c2]; rfl) (by simpa using c2)
  by_cases c3 : n < 4294967296
  · exact long 254 4 (.inr (.inl ⟨rfl, rfl⟩)) (by unfold sizeB; rw [if_neg c1, if_neg c2, if_pos c3]) (by unfold sizeLen; rw [if_neg c1, if_neg c2, if_pos c3]; rfl) (by simpa using c3)
  · exact long 255 8 (.inr (.inr ⟨rfl, rfl⟩)) (by unfold sizeB; rw [if_neg c1, if_neg c2, if_neg c3]) (by unfold sizeLen; rw [if_neg c1, if_neg c2, if_neg c3]; rfl) (by simpa using h1)

theorem sizeR_sizeB (n : Int) (ys : List UInt8) (h0 : 0 ≤ n) (h1 : n ≤ 33554432) : sizeR 0 (sizeB n ++ ys) = (n, 0, ys) := by
  unfold sizeR
  rw [if_neg (by decide), sizeP_sizeB n ys h0 (by omega), if_neg (by omega)]
theorem sizeR_great (n : Int) (ys : List UInt8) (h0 : 0 ≤ n) (h1 : n < 18446744073709551616) (h2 : n > 33554432) : sizeR 0 (sizeB n ++ ys) = (0, 2, sizeB n ++ ys) := by
  unfold sizeR
  rw [if_neg (by decide), sizeP_sizeB n ys h0 h1, if_pos h2]

theorem rawR_app (ts ys : List UInt8) : rawR ts.length 0 (ts ++ ys) = (ts, 0, ys) := by
  unfold rawR
  rw [if_neg (by decide), if_neg (by rw [List.length_append]; omega), Int.toNat_natCast, List.take_left, List.drop_left]

theorem listR_app (ts ys : List UInt8) (most : Int) (hm : ts.length ≤ most) (ht : ts.length ≤ 33554432) : listR most 0 (sizeB ts.length ++ ts ++ ys) = (ts, 0, ys) := by
  unfold listR listP
  rw [if_neg (by decide), List.append_assoc, sizeP_sizeB _ _ (by omega) (by omega), if_neg (by omega)]
  simp only
  rw [if_neg (by omega), if_neg (by rw [List.length_append]; omega), Int.toNat_natCast, List.take_left, List.drop_left]

end Go.Proofs.YtjdicifickjggaaDoor

/-
  Slices of slices of bytes, as they are read. Conditions: none.
-/
namespace Go.Proofs.YtjdicifickjggaaDoor
open Go.RowKit

/-- The slice value v reads as these slices of bytes. -/
def BagR (w : World) (B : Nat) (v : Value) (L : List (Value × List UInt8)) : Prop :=
  (∃ A c, v = .slice A L.length c ∧ L.length ≤ c ∧ c ≤ maxLen ∧ (L ≠ [] → ∃ b o, A = some ⟨b, o, none⟩ ∧ b < B ∧ ∀ i p, L[i]? = some p → w.cell? ⟨b, o + i, none⟩ = some p.1)) ∧ ∀ p ∈ L, Byt w B p.1 p.2
theorem BagR.form {w : World} {B : Nat} {v : Value} {L : List (Value × List UInt8)} (h : BagR w B v L) : ∃ A c, v = .slice A L.length c := by
  obtain ⟨⟨A, c, hv, _⟩, _⟩ := h
  exact ⟨A, c, hv⟩
theorem BagR.len {w : World} {B : Nat} {v : Value} {L : List (Value × List UInt8)} (h : BagR w B v L) : L.length ≤ 9223372036854775807 := by
  obtain ⟨⟨A, c, hv, h1, h2, _⟩, _⟩ := h
  unfold maxLen at h2
  omega
theorem BagR.below {w w' : World} {B : Nat} {v : Value} {L : List (Value × List UInt8)} (h : BagR w B v L) (hb : Below B w w') : BagR w' B v L := by
  obtain ⟨⟨A, c, hv, h1, h2, h3⟩, h4⟩ := h
  refine ⟨⟨A, c, hv, h1, h2, fun hne => ?_⟩, fun p hp => (h4 p hp).below hb⟩
  obtain ⟨b, o, e, hb', hc⟩ := h3 hne
  exact ⟨b, o, e, hb', fun i p hp => (hb.cell (p := ⟨b, _, none⟩) hb').trans (hc i p hp)⟩
theorem BagR.more {w : World} {B B' : Nat} {v : Value} {L : List (Value × List UInt8)} (h : BagR w B v L) (hB : B ≤ B') : BagR w B' v L := by
  obtain ⟨⟨A, c, hv, h1, h2, h3⟩, h4⟩ := h
  refine ⟨⟨A, c, hv, h1, h2, fun hne => ?_⟩, fun p hp => (h4 p hp).more hB⟩
  obtain ⟨b, o, e, hb', hc⟩ := h3 hne
  exact ⟨b, o, e, by omega, hc⟩
end Go.Proofs.YtjdicifickjggaaDoor

/-
  Pieces: what is written and digested, as bytes; what the law keeps. Conditions: none.
-/
namespace Go.Proofs.YtjdicifickjggaaDoor
open Go.RowKit

def numAt (N : List Int) (i : Nat) : Int := if N.length = 0 then (i : Int) else N.getD (i % N.length) 0
def partAt (P : List (Value × List UInt8)) (i : Nat) : List UInt8 := ((P[i]?.map (·.2)).getD []).take 400
def pc (P : List (Value × List UInt8)) (N : List Int) (i : Nat) : List UInt8 := sizeB (partAt P i).length ++ partAt P i ++ low (numAt N i) 8
def catP (P : List (Value × List UInt8)) (N : List Int) : Nat → List UInt8
  | 0 => []
  | i + 1 => catP P N i ++ pc P N i
section
variable {P : List (Value × List UInt8)} {N : List Int}
theorem partAt_le (i : Nat) : (partAt P i).length ≤ 400 := List.length_take_le _ _
theorem pc_le (i : Nat) : (pc P N i).length ≤ 417 := by
  have h1 := partAt_le (P := P) i
  have h2 := sizeB_le (partAt P i).length
  unfold pc
  rw [List.length_append, List.length_append, low_length]
  omega
theorem catP_le (i : Nat) : (catP P N i).length ≤ 417 * i := by
  induction i with
  | zero => simp [catP]
  | succ i ih =>
    have := pc_le (P := P) (N := N) i
    unfold catP
    rw [List.length_append]
    omega
theorem catP_split (i d : Nat) : ∃ z, catP P N (i + d) = catP P N i ++ z := by
  induction d with
  | zero => exact ⟨[], by simp⟩
  | succ d ih =>
    obtain ⟨z, hz⟩ := ih
    exact ⟨z ++ pc P N (i + d), by rw [← Nat.add_assoc, ← List.append_assoc, ← hz]; rfl⟩
theorem rest_next {i m : Nat} (h : i < m) {ys : List UInt8} (hy : catP P N m = catP P N i ++ ys) : ∃ z, ys = pc P N i ++ z ∧ catP P N m = catP P N (i + 1) ++ z := by
  obtain ⟨d, rfl⟩ : ∃ d, m = i + 1 + d := ⟨m - (i + 1), by omega⟩
  obtain ⟨z, hz⟩ := catP_split (P := P) (N := N) (i + 1) d
  refine ⟨z, ?_, hz⟩
  rw [hz] at hy
  have hy2 : catP P N i ++ (pc P N i ++ z) = catP P N i ++ ys := by rw [← List.append_assoc]; exact hy
  exact (List.append_cancel_left hy2).symm
theorem rest_end {m : Nat} {ys : List UInt8} (hy : catP P N m = catP P N m ++ ys) : ys = [] := by
  have := congrArg List.length hy
  rw [List.length_append] at this
  exact List.eq_nil_of_length_eq_zero (by omega)
theorem numAt_bd (h : ∀ n ∈ N, 0 ≤ n ∧ n < 18446744073709551616) {i : Nat} (hi : i < 12) : 0 ≤ numAt N i ∧ numAt N i < 18446744073709551616 := by
  unfold numAt
  split
  · omega
  · have hl : i % N.length < N.length := Nat.mod_lt _ (by omega)
    rw [List.getD, List.getElem?_eq_getElem hl]
    exact h _ (List.getElem_mem hl)
end

/-- What the law keeps: a writer at G that wrote a, a list o of the bytes c, digests at G + 1 and G + 2 that took d and e. -/
structure PSt (G : Nat) (w wx : World) (v o : Value) (a c d e : List UInt8) : Prop where
  wr : Wr wx G (G + 3) v a
  al : wx.ownsRow (G + 3) 5 1 o c.length (c.map bv)
  ap : ∀ k, v.ownBlock = some k → o.ownBlock ≠ some k
  s1 : SumIs wx (G + 1) 34 d
  s2 : SumIs wx (G + 2) 34 e
  bl : Below G w wx
  sz : G + 3 ≤ wx.heap.size
section
variable {G : Nat} {w wx w1 : World} {v o : Value} {a a' c d e : List UInt8}
theorem PSt.write (h : PSt G w wx v o a c d e) (hs : WrStep wx G (G + 3) v a' w1) : ∃ v', PSt G w w1 v' o a' c d e := by
  obtain ⟨v', h1, ht, hb⟩ := hs
  have hv : ∀ k, v.ownBlock = some k → G + 3 ≤ k := fun k hk => (World.ownsRow.lt h.wr.2 k hk).1
  have ho : ∀ k, o.ownBlock = some k → G + 3 ≤ k ∧ k < wx.heap.size := fun k hk => World.ownsRow.lt h.al k hk
  have hz := h.sz
  refine ⟨v', h1, own_turns h.al ht (fun k hk e => ?_), fun k hk hk2 => ?_, h.s1.turns ht (fun e => ?_), h.s2.turns ht (fun e => ?_), h.bl.trans (ht.below_of (by omega) (fun i hi e => ?_)), Nat.le_trans h.sz ht.size⟩
  · rcases e with e | e
    · have := ho k hk; omega
    · exact h.ap k e hk
  · rcases hb with e | ⟨j, e, hj⟩
    · exact h.ap k (e ▸ hk) hk2
    · rw [e] at hk
      obtain rfl := Option.some.inj hk
      have := (ho _ hk2).2
      omega
  · rcases e with e | e
    · omega
    · have := hv _ e; omega
  · rcases e with e | e
    · omega
    · have := hv _ e; omega
  · rcases e with e | e
    · omega
    · have := hv _ e; omega
theorem PSt.below (h : PSt G w wx v o a c d e) (hb : Below wx.heap.size wx w1) : PSt G w w1 v o a c d e :=
  ⟨h.wr.turns (Turns.of_below (S := fun _ => False) hb) (fun h => h) (fun _ _ h => h), own_turns h.al (Turns.of_below (S := fun _ => False) hb) (fun _ _ h => h), h.ap, h.s1.below hb, h.s2.below hb, h.bl.trans (hb.mono (by have := h.sz; omega)), Nat.le_trans h.sz hb.size⟩
theorem PSt.all (h : PSt G w wx v o a c d e) {o' : Value} {p : List UInt8} (hown : w1.ownsRow (G + 3) 5 1 o' (c.length + p.length) (c.map bv ++ p.map bv)) (hg : wx.grownBy w1 o.ownBlock)
    (hat : o'.ownBlock = o.ownBlock ∨ o'.ownBlock = some wx.heap.size) : PSt G w w1 v o' a (c ++ p) d e := by
  have ht : Turns (fun k => o.ownBlock = some k) wx w1 := (Turns.refl _ wx).grown hg (fun k hk _ => hk)
  have ho : ∀ k, o.ownBlock = some k → G + 3 ≤ k := fun k hk => (World.ownsRow.lt h.al k hk).1
  have hv : ∀ k, v.ownBlock = some k → k < wx.heap.size := fun k hk => (World.ownsRow.lt h.wr.2 k hk).2
  have hz := h.sz
  refine ⟨h.wr.turns ht (fun e => own_block_other h.al h.wr.1 (by decide) e) (fun k hk e => h.ap k hk e), by rw [List.length_append, List.map_append]; exact hown, fun k hk hk2 => ?_, h.s1.turns ht (fun e => ?_), h.s2.turns ht (fun e => ?_), h.bl.trans (ht.below_of (by omega) (fun i hi e => ?_)), Nat.le_trans h.sz ht.size⟩
  · rcases hat with e | e
    · exact h.ap k hk (e ▸ hk2)
    · rw [e] at hk2
      obtain rfl := Option.some.inj hk2
      have := hv _ hk
      omega
  · have := ho _ e; omega
  · have := ho _ e; omega
  · have := ho _ e; omega
theorem PSt.sum1 {d' : List UInt8} (h : PSt G w wx v o a c d e) (hs : SumIs w1 (G + 1) 34 d') (ht : Turns (· = G + 1) wx w1) : PSt G w w1 v o a c d' e := by
  have ho : ∀ k, o.ownBlock = some k → G + 3 ≤ k := fun k hk => (World.ownsRow.lt h.al k hk).1
  have hv : ∀ k, v.ownBlock = some k → G + 3 ≤ k := fun k hk => (World.ownsRow.lt h.wr.2 k hk).1
  have hz := h.sz
  refine ⟨h.wr.turns ht (fun e => ?_) (fun k hk e => ?_), own_turns h.al ht (fun k hk e => ?_), h.ap, hs, h.s2.turns ht (fun e => ?_), h.bl.trans (ht.below_of (by omega) (fun i hi e => ?_)), Nat.le_trans h.sz ht.size⟩
  · have e : G = G + 1 := e; omega
  · have e : k = G + 1 := e; have := hv k hk; omega
  · have e : k = G + 1 := e; have := ho k hk; omega
  · have e : G + 2 = G + 1 := e; omega
  · have e : i = G + 1 := e; omega
theorem PSt.sum2 {e' : List UInt8} (h : PSt G w wx v o a c d e) (hs : SumIs w1 (G + 2) 34 e') (ht : Turns (· = G + 2) wx w1) : PSt G w w1 v o a c d e' := by
  have ho : ∀ k, o.ownBlock = some k → G + 3 ≤ k := fun k hk => (World.ownsRow.lt h.al k hk).1
  have hv : ∀ k, v.ownBlock = some k → G + 3 ≤ k := fun k hk => (World.ownsRow.lt h.wr.2 k hk).1
  have hz := h.sz
  refine ⟨h.wr.turns ht (fun e => ?_) (fun k hk e => ?_), own_turns h.al ht (fun k hk e => ?_), h.ap, h.s1.turns ht (fun e => ?_), hs, h.bl.trans (ht.below_of (by omega) (fun i hi e => ?_)), Nat.le_trans h.sz ht.size⟩
  · have e : G = G + 2 := e; omega
  · have e : k = G + 2 := e; have := hv k hk; omega
  · have e : k = G + 2 := e; have := ho k hk; omega
  · have e : G + 1 = G + 2 := e; omega
  · have e : i = G + 2 := e; omega
theorem PSt.roots (h : PSt G w wx v o a c d e) (hG : G = w.heap.size) (hr : Roots w) : Roots wx := hr.below (hG ▸ h.bl)
theorem PSt.first (hG : G = w.heap.size) : PSt G w (((w.alloc (.cells #[.slice none 0 0] 26)).alloc (.cells zIn.toArray 34)).alloc (.cells zIn.toArray 34)) (.slice none 0 0) (.slice none 0 0) [] [] [] [] := by
  subst hG
  obtain ⟨wa, hwa⟩ : ∃ x, x = w.alloc (.cells #[.slice none 0 0] 26) := ⟨_, rfl⟩
  obtain ⟨wb, hwb⟩ : ∃ x, x = wa.alloc (.cells zIn.toArray 34) := ⟨_, rfl⟩
  have sa : wa.heap.size = w.heap.size + 1 := by rw [hwa]; simp
  have sb : wb.heap.size = w.heap.size + 2 := by rw [hwb]; simp [sa]
  have h1 : wa.heap[w.heap.size]? = some (.cells #[.slice none 0 0] 26 (0, 0)) := by rw [hwa]; exact heap_alloc_new w _
  have ba : Below wa.heap.size wa wb := by rw [hwb]; exact (Below.refl _ wa).alloc (Nat.le_refl _) _
  have bb : Below wb.heap.size wb (wb.alloc (.cells zIn.toArray 34)) := (Below.refl _ wb).alloc (Nat.le_refl _) _
  have b0 : Below w.heap.size w wa := by rw [hwa]; exact (Below.refl _ w).alloc (Nat.le_refl _) _
  have bab := ba.trans (bb.mono (by omega))
  have s1 : SumIs wb (w.heap.size + 1) 34 [] := by rw [← sa, hwb]; exact sum_zero wa _
  have s2 : SumIs (wb.alloc (.cells zIn.toArray 34)) (w.heap.size + 2) 34 [] := by rw [← sb]; exact sum_zero wb _
  rw [← hwa, ← hwb]
  refine ⟨⟨(bab.block _ (by omega)).trans h1, World.ownsRow_nil _ _ _ _⟩, World.ownsRow_nil _ _ _ _, (fun k hk => by cases hk), s1.below bb, s2, b0.trans (bab.mono (by omega)), by simp; omega⟩
end
/-- A row of the call's own is outside a block below it. -/
theorem src_own {w : World} {base g : Nat} {y : Value} {xs : List UInt8} (h : OwnB w base y xs) (hg : g < base) : Src w g y xs := by
  obtain ⟨A, c, e, h1, h2, h3, h4⟩ := Byt.of_own h
  refine ⟨A, c, e, h1, h2, h3, fun hne => ?_⟩
  obtain ⟨b, o, rfl, hb, hc⟩ := h4 hne
  subst e
  have : base ≤ b := by
    rcases h.2 with ⟨e, h0⟩ | ⟨g', cap, cur, e, hb', _⟩
    · cases e
    · obtain ⟨e1, _, _⟩ := Value.slice.inj e
      injection e1 with e1
      obtain ⟨rfl, _, _⟩ := Addr.mk.inj e1
      exact hb'
  exact ⟨b, o, rfl, hb, by omega, hc⟩
/-- A new block of one byte. -/
theorem src_one (w : World) (c : UInt8) {g : Nat} (hg : g < w.heap.size) : Src (w.alloc (.cells #[.int .u8 (c.toNat : Int)] 5)) g (.slice (some ⟨w.heap.size, 0, none⟩) 1 1) [c] := by
  refine ⟨_, 1, rfl, Nat.le_refl _, by unfold maxLen; omega, (by intro h; cases h), fun _ => ⟨w.heap.size, 0, rfl, by simp, by omega, fun j u hu => ?_⟩⟩
  rw [Nat.zero_add, cell_of_row _ w.heap.size j _ _ _ (heap_alloc_new w _)]
  match j, hu with
  | 0, hu => obtain rfl := Option.some.inj hu; rfl
end Go.Proofs.YtjdicifickjggaaDoor

/-
  The comparison of the digests in the law on pieces: a region that draws its order. Conditions: none.
-/
namespace Go.Proofs.YtjdicifickjggaaDoor
open Go.RowKit

theorem eq_h (xs ys : List UInt8) (hx : xs.length = 32) (hy : ys.length = 32) (w : World) :
    (Op.equalIn 10000 41 (.agg ((nums xs).map (Value.int .u8)).toArray) (.agg ((nums ys).map (Value.int .u8)).toArray)).run Tryd.prog w = .ok (xs == ys) w := by
  obtain ⟨i0, hi, hz0, hz1, hz2⟩ := info_parts info_u8
  rw [nums_bv, nums_bv]
  exact run_equalIn_bytes w 9998 41 5 32 Tryd.underlying41 Tryd.underlying5 (fun w => by simp [sizeOf, typeInfo, hi, hz1]) xs ys hx hy
theorem IRow.range {w : World} {g : Nat} {t : TypeId} {k : IntKind} {xs : List Int} (h : IRow w g t k xs) : w.rangeAt g 0 (xs.map (Value.int k)) := fun j v hv => by
  rw [List.getElem?_map] at hv
  obtain ⟨z, hz, rfl⟩ := Option.map_eq_some_iff.1 hv
  rw [Nat.zero_add]
  exact h.cell hz
def findRegion (n : Nat) : Code → Option Code
  | .seq a b => match findRegion n a with
    | some c => some c
    | none => findRegion n b
  | .region k ops b => if k = n then some (.region k ops b) else none
  | .block _ c => findRegion n c
  | .loop c => findRegion n c
  | .scope c => findRegion n c
  | .cond _ a b => match findRegion n a with
    | some c => some c
    | none => findRegion n b
  | _ => none
noncomputable def regOf (n : Nat) (f : Func) : Code := (f.body.bind (findRegion n)).getD .skip

set_option maxRecDepth 1000000 in
set_option maxHeartbeats 12800000 in
theorem st24_any {Q : Exit → Act → World → Prop} (A : Option Addr) (n c S T H : Nat) (D E : List UInt8) (wc : World) (hD : D.length = 32) (hE : E.length = 32) (rH : IRow wc H 41 .u8 (nums D)) (c1 : ∀ W, Below wc.heap.size wc W → Calls Tryd.prog 11 #[.slice A n c] W fun e w' => e = .returned (.agg ((nums (D)).map (Value.int .u8)).toArray) ∧ Below W.heap.size W w') (c2 : ∀ W, Below wc.heap.size wc W → Calls Tryd.prog 12 #[.pointer (some ⟨S, 0, none⟩)] W fun e w' => e = .returned (.agg ((nums (D)).map (Value.int .u8)).toArray) ∧ Below W.heap.size W w') (c3 : ∀ W, Below wc.heap.size wc W → Calls Tryd.prog 12 #[.pointer (some ⟨T, 0, none⟩)] W fun e w' => e = .returned (.agg ((nums (D)).map (Value.int .u8)).toArray) ∧ Below W.heap.size W w') (c4 : ∀ W, Below wc.heap.size wc W → Calls Tryd.prog 13 #[.pointer (some ⟨S, 0, none⟩)] W fun e w' => e = .returned (.agg ((nums (E)).map (Value.int .u8)).toArray) ∧ Below W.heap.size W w') (c5 : ∀ W, Below wc.heap.size wc W → Calls Tryd.prog 14 #[.slice A n c] W fun e w' => e = .returned (.agg ((nums (E)).map (Value.int .u8)).toArray) ∧ Below W.heap.size W w') (u0 u1 u2 u3 u4 u5 u9 u10 u11 u12 u13 u14 u16 u17 u18 u19 u20 u21 u22 u23 u24 u25 u26 u27 u28 u29 u30 u31 u32 u33 u34 u35 u36 u37 u38 u39 u40 u41 u42 u43 u44 u45 u46 u47 u48 u49 u50 u51 u52 u53 u54 u55 u56 u57 u58 u59 u60 u61 u62 u63 u64 u65 u66 u67 u68 u69 u70 u71 u72 u73 u74 u75 u76 u77 u78 u79 u80 u81 u82 u83 u84 u85 u86 u87 u88 u89 u90 u91 u92 u93 u94 u95 u96 u97 u98 u99 u100 u101 u102 u103 u104 u105 u106 u107 u108 u109 u110 u111 u112 u113 u114 u115 u116 u117 u118 u119 u120 u121 u122 u123 u124 u125 u126 u127 u128 u129 u130 u131 u132 u133 u134 u135 u136 u137 u138 u139 u140 u141 u142 u143 u144 u145 u146 : Value)
    (hPan : ∀ (c : List PanicEntry) (a : Act) (d : Tmp) (v : Value) (w : World), Q (.panic c) (a.put (some d) v) w → Q (.panic c) a w)
    (hQ : ∀ (v78 v79 v80 v81 v82 v83 v84 v85 v86 v87 v88 v89 v90 v91 v92 v93 v94 v95 v96 : Value) (w' : World), Below wc.heap.size wc w' → Q .normal ⟨#[u0, u1, u2, u3, u4, u5, .pointer (some ⟨S, 0, none⟩), .pointer (some ⟨T, 0, none⟩), .slice A n c, u9, u10, u11, u12, u13, u14, .pointer (some ⟨H, 0, none⟩), u16, u17, u18, u19, u20, u21, u22, u23, u24, u25, u26, u27, u28, u29, u30, u31, u32, u33, u34, u35, u36, u37, u38, u39, u40, u41, u42, u43, u44, u45, u46, u47, u48, u49, u50, u51, u52, u53, u54, u55, u56, u57, u58, u59, u60, u61, u62, u63, u64, u65, u66, u67, u68, u69, u70, u71, u72, u73, u74, u75, u76, u77, v78, v79, v80, v81, v82, v83, v84, v85, v86, v87, v88, v89, v90, v91, v92, v93, v94, v95, v96, .bool false, u98, u99, u100, u101, u102, u103, u104, u105, u106, u107, u108, u109, u110, u111, u112, u113, u114, u115, u116, u117, u118, u119, u120, u121, u122, u123, u124, u125, u126, u127, u128, u129, u130, u131, u132, u133, u134, u135, u136, u137, u138, u139, u140, u141, u142, u143, u144, u145, u146], []⟩ w') :
    Code.wp Tryd.prog (regOf 24 Tryd.f3) Q ⟨#[u0, u1, u2, u3, u4, u5, .pointer (some ⟨S, 0, none⟩), .pointer (some ⟨T, 0, none⟩), .slice A n c, u9, u10, u11, u12, u13, u14, .pointer (some ⟨H, 0, none⟩), u16, u17, u18, u19, u20, u21, u22, u23, u24, u25, u26, u27, u28, u29, u30, u31, u32, u33, u34, u35, u36, u37, u38, u39, u40, u41, u42, u43, u44, u45, u46, u47, u48, u49, u50, u51, u52, u53, u54, u55, u56, u57, u58, u59, u60, u61, u62, u63, u64, u65, u66, u67, u68, u69, u70, u71, u72, u73, u74, u75, u76, u77, u78, u79, u80, u81, u82, u83, u84, u85, u86, u87, u88, u89, u90, u91, u92, u93, u94, u95, u96, u97, u98, u99, u100, u101, u102, u103, u104, u105, u106, u107, u108, u109, u110, u111, u112, u113, u114, u115, u116, u117, u118, u119, u120, u121, u122, u123, u124, u125, u126, u127, u128, u129, u130, u131, u132, u133, u134, u135, u136, u137, u138, u139, u140, u141, u142, u143, u144, u145, u146], []⟩ wc := by
  conv => arg 2; whnf
  have HQ := Lib.hid hQ
  have C1 := Lib.hid c1
  have C2 := Lib.hid c2
  have C3 := Lib.hid c3
  have C4 := Lib.hid c4
  have C5 := Lib.hid c5
  have BX := Lib.hid (show Below wc.heap.size wc wc.drew from ⟨rfl, rfl, rfl, Nat.le_refl _, fun _ _ => rfl⟩)
  have heq1 := fun W => eq_h D D hD hD W
  have heq2 := fun W => eq_h E E hE hE W
  simp only [beq_self_eq_true] at heq1 heq2
  obtain ⟨VDL, hVDL⟩ : ∃ VDL : List Value, VDL = (nums D).map (Value.int .u8) := ⟨_, rfl⟩
  obtain ⟨VE, hVE⟩ : ∃ VE : Array Value, VE = ((nums E).map (Value.int .u8)).toArray := ⟨_, rfl⟩
  have HIN := Lib.hid (show (Tryd.prog.info? 41).map (·.size) = some VDL.length by rw [hVDL, List.length_map, nums_length, hD]; exact info_h)
  have HRG := Lib.hid (fun (w' : World) (h : IRow w' H 41 .u8 (nums D)) => (show w'.rangeAt H 0 VDL by rw [hVDL]; exact h.range))
  rw [← hVDL] at C1 C2 C3
  rw [← hVE] at C4 C5
  simp only [← hVDL] at heq1
  simp only [← hVE] at heq2
  clear hQ c1 c2 c3 c4 c5 hVDL hVE hD hE
  refine wp_region_held_drew (S := (fun w' => IRow w' H 41 .u8 (nums D))) (by kernel_rfl) ?_ (fun hHeld => ?_)
  · exact rH.drew
  refine wpAnyH_take (i := 0) (oi := { dst := some 78, op := Go.Op.load 41 (Go.Operand.tmp 15), type := 41, pos := "top01.go:35", after := #[], guard := none }) (v := (.agg VDL.toArray)) rfl (by kernel_rfl) (by kernel_rfl) (by kernel_rfl) (fun _ _ _ h => hPan _ _ _ _ _ h) (yieldsIf_load_mid (by rfl) 41 (.tmp 15) rfl H 0 rfl (VDL) _ (fun w' h => HRG.out w' h) Tryd.underlying41 rfl HIN.out) (by assumption) ?_
  try simp only [Act.put, List.setIfInBounds_toArray, List.set_cons_zero, List.set_cons_succ]
  refine wpAnyH_take (i := 1) (oi := { dst := some 79, op := Go.Op.move (Go.Operand.tmp 8), type := 24, pos := "top01.go:35", after := #[], guard := none }) (v := ?zv1) rfl (by kernel_rfl) (by kernel_rfl) (by kernel_rfl) (fun _ _ _ h => hPan _ _ _ _ _ h) (Or.inl ⟨by rfl, ?zy1⟩) (by assumption) ?zr1
  case zy1 => (intro w hSw; (try dsimp only at hSw); go_simp; try (with_reducible rfl))
  case zr1 =>
  try simp only [Act.put, List.setIfInBounds_toArray, List.set_cons_zero, List.set_cons_succ]
  refine wpAnyH_ready (rs := [2]) (by kernel_rfl) (by simp) ?_
  refine AllReadyH.cons (o := { dst := some 80, op := Go.Op.call { callee := Go.Callee.value (Go.Operand.func 11), args := #[Go.Operand.tmp 79], argTypes := #[24] }, type := 40, pos := "top01.go:35", after := #[{ on := 1, ground := Go.Ground.data }], guard := none }) rfl (fun K hK => ?_) (AllReadyH.nil)
  go_simp
  refine (C1.out _ BX.out).mono ?_
  rintro e w6 ⟨rfl, hb6⟩
  go_simp
  have HK := Lib.hid (hHeld.below hb6 hHeld.lt)
  have BX := Lib.hid (BX.out.trans (hb6.mono BX.out.size))
  clear hb6
  refine hK.out _ _ ?_ (fun hHeld => ?_)
  · exact HK.out
  clear hK K
  try simp only [Act.put, List.setIfInBounds_toArray, List.set_cons_zero, List.set_cons_succ]
  refine wpAnyH_take (i := 3) (oi := { dst := some 81, op := Go.Op.binOp Go.BinOp.neq 41 (Go.Operand.tmp 78) (Go.Operand.tmp 80) 41, type := 4, pos := "top01.go:35", after := #[{ on := 0, ground := Go.Ground.data }, { on := 2, ground := Go.Ground.data }], guard := none }) (v := ?z_2v3) rfl (by kernel_rfl) (by kernel_rfl) (by kernel_rfl) (fun _ _ _ h => hPan _ _ _ _ _ h) (Or.inl ⟨by rfl, ?z_2y3⟩) (by assumption) ?z_2r3
  case z_2y3 => (intro w hSw; (try dsimp only at hSw); go_simp; try (with_reducible rfl))
  case z_2r3 =>
  try simp only [Act.put, List.setIfInBounds_toArray, List.set_cons_zero, List.set_cons_succ]
  refine wpAnyH_take (i := 4) (oi := { dst := some 82, op := Go.Op.move (Go.Operand.tmp 81), type := 4, pos := "top01.go:35", after := #[{ on := 3, ground := Go.Ground.data }, { on := 2, ground := Go.Ground.chain }], guard := none }) (v := ?z_2v4) rfl (by kernel_rfl) (by kernel_rfl) (by kernel_rfl) (fun _ _ _ h => hPan _ _ _ _ _ h) (Or.inl ⟨by rfl, ?z_2y4⟩) (by assumption) ?z_2r4
  case z_2y4 => (intro w hSw; (try dsimp only at hSw); go_simp; try (with_reducible rfl))
  case z_2r4 =>
  try simp only [Act.put, List.setIfInBounds_toArray, List.set_cons_zero, List.set_cons_succ]
  refine wpAnyH_take (i := 6) (oi := { dst := some 84, op := Go.Op.load 41 (Go.Operand.tmp 15), type := 41, pos := "top01.go:35", after := #[{ on := 4, ground := Go.Ground.guard }], guard := some (4, false) }) (v := (.agg VDL.toArray)) rfl (by kernel_rfl) (by kernel_rfl) (by kernel_rfl) (fun _ _ _ h => hPan _ _ _ _ _ h) (yieldsIf_load_mid (by rfl) 41 (.tmp 15) rfl H 0 rfl (VDL) _ (fun w' h => HRG.out w' h) Tryd.underlying41 rfl HIN.out) (by assumption) ?_
  try simp only [Act.put, List.setIfInBounds_toArray, List.set_cons_zero, List.set_cons_succ]
  refine wpAnyH_ready (rs := [5]) (by kernel_rfl) (by simp) ?_
  refine AllReadyH.cons (o := { dst := some 83, op := Go.Op.call { callee := Go.Callee.value (Go.Operand.func 12), args := #[Go.Operand.tmp 6], argTypes := #[34] }, type := 41, pos := "top01.go:35", after := #[{ on := 4, ground := Go.Ground.chain }, { on := 4, ground := Go.Ground.guard }], guard := some (4, false) }) rfl (fun K hK => ?_) (AllReadyH.nil)
  go_simp
  refine (C2.out _ BX.out).mono ?_
  rintro e w6 ⟨rfl, hb6⟩
  go_simp
  have HK := Lib.hid (hHeld.below hb6 hHeld.lt)
  have BX := Lib.hid (BX.out.trans (hb6.mono BX.out.size))
  clear hb6
  refine hK.out _ _ ?_ (fun hHeld => ?_)
  · exact HK.out
  clear hK K
  try simp only [Act.put, List.setIfInBounds_toArray, List.set_cons_zero, List.set_cons_succ]
  refine wpAnyH_take (i := 7) (oi := { dst := some 85, op := Go.Op.binOp Go.BinOp.neq 41 (Go.Operand.tmp 83) (Go.Operand.tmp 84) 41, type := 4, pos := "top01.go:35", after := #[{ on := 5, ground := Go.Ground.data }, { on := 6, ground := Go.Ground.data }, { on := 4, ground := Go.Ground.guard }], guard := some (4, false) }) (v := ?z_2_5v7) rfl (by kernel_rfl) (by kernel_rfl) (by kernel_rfl) (fun _ _ _ h => hPan _ _ _ _ _ h) (Or.inl ⟨by rfl, ?z_2_5y7⟩) (by assumption) ?z_2_5r7
  case z_2_5y7 => (intro w hSw; (try dsimp only at hSw); go_simp; try (with_reducible rfl))
  case z_2_5r7 =>
  try simp only [Act.put, List.setIfInBounds_toArray, List.set_cons_zero, List.set_cons_succ]
  refine wpAnyH_take (i := 8) (oi := { dst := some 86, op := Go.Op.pick (Go.Operand.tmp 82) (Go.Operand.const (Go.Value.bool true)) (Go.Operand.tmp 85), type := 4, pos := "top01.go:35", after := #[{ on := 4, ground := Go.Ground.data }, { on := 7, ground := Go.Ground.data }], guard := none }) (v := ?z_2_5v8) rfl (by kernel_rfl) (by kernel_rfl) (by kernel_rfl) (fun _ _ _ h => hPan _ _ _ _ _ h) (Or.inl ⟨by rfl, ?z_2_5y8⟩) (by assumption) ?z_2_5r8
  case z_2_5y8 => (intro w hSw; (try dsimp only at hSw); go_simp; try (with_reducible rfl))
  case z_2_5r8 =>
  try simp only [Act.put, List.setIfInBounds_toArray, List.set_cons_zero, List.set_cons_succ]
  refine wpAnyH_take (i := 9) (oi := { dst := some 87, op := Go.Op.move (Go.Operand.tmp 86), type := 4, pos := "top01.go:35", after := #[{ on := 8, ground := Go.Ground.data }, { on := 5, ground := Go.Ground.chain }], guard := none }) (v := ?z_2_5v9) rfl (by kernel_rfl) (by kernel_rfl) (by kernel_rfl) (fun _ _ _ h => hPan _ _ _ _ _ h) (Or.inl ⟨by rfl, ?z_2_5y9⟩) (by assumption) ?z_2_5r9
  case z_2_5y9 => (intro w hSw; (try dsimp only at hSw); go_simp; try (with_reducible rfl))
  case z_2_5r9 =>
  try simp only [Act.put, List.setIfInBounds_toArray, List.set_cons_zero, List.set_cons_succ]
  refine wpAnyH_take (i := 11) (oi := { dst := some 89, op := Go.Op.load 41 (Go.Operand.tmp 15), type := 41, pos := "top01.go:35", after := #[{ on := 9, ground := Go.Ground.guard }], guard := some (9, false) }) (v := (.agg VDL.toArray)) rfl (by kernel_rfl) (by kernel_rfl) (by kernel_rfl) (fun _ _ _ h => hPan _ _ _ _ _ h) (yieldsIf_load_mid (by rfl) 41 (.tmp 15) rfl H 0 rfl (VDL) _ (fun w' h => HRG.out w' h) Tryd.underlying41 rfl HIN.out) (by assumption) ?_
  try simp only [Act.put, List.setIfInBounds_toArray, List.set_cons_zero, List.set_cons_succ]
  refine wpAnyH_ready (rs := [10]) (by kernel_rfl) (by simp) ?_
  refine AllReadyH.cons (o := { dst := some 88, op := Go.Op.call { callee := Go.Callee.value (Go.Operand.func 12), args := #[Go.Operand.tmp 7], argTypes := #[34] }, type := 41, pos := "top01.go:35", after := #[{ on := 9, ground := Go.Ground.chain }, { on := 9, ground := Go.Ground.guard }], guard := some (9, false) }) rfl (fun K hK => ?_) (AllReadyH.nil)
  go_simp
  refine (C3.out _ BX.out).mono ?_
  rintro e w6 ⟨rfl, hb6⟩
  go_simp
  have HK := Lib.hid (hHeld.below hb6 hHeld.lt)
  have BX := Lib.hid (BX.out.trans (hb6.mono BX.out.size))
  clear hb6
  refine hK.out _ _ ?_ (fun hHeld => ?_)
  · exact HK.out
  clear hK K
  try simp only [Act.put, List.setIfInBounds_toArray, List.set_cons_zero, List.set_cons_succ]
  refine wpAnyH_take (i := 12) (oi := { dst := some 90, op := Go.Op.binOp Go.BinOp.neq 41 (Go.Operand.tmp 88) (Go.Operand.tmp 89) 41, type := 4, pos := "top01.go:35", after := #[{ on := 10, ground := Go.Ground.data }, { on := 11, ground := Go.Ground.data }, { on := 9, ground := Go.Ground.guard }], guard := some (9, false) }) (v := ?z_2_5_10v12) rfl (by kernel_rfl) (by kernel_rfl) (by kernel_rfl) (fun _ _ _ h => hPan _ _ _ _ _ h) (Or.inl ⟨by rfl, ?z_2_5_10y12⟩) (by assumption) ?z_2_5_10r12
  case z_2_5_10y12 => (intro w hSw; (try dsimp only at hSw); go_simp; try (with_reducible rfl))
  case z_2_5_10r12 =>
  try simp only [Act.put, List.setIfInBounds_toArray, List.set_cons_zero, List.set_cons_succ]
  refine wpAnyH_take (i := 13) (oi := { dst := some 91, op := Go.Op.pick (Go.Operand.tmp 87) (Go.Operand.const (Go.Value.bool true)) (Go.Operand.tmp 90), type := 4, pos := "top01.go:35", after := #[{ on := 9, ground := Go.Ground.data }, { on := 12, ground := Go.Ground.data }], guard := none }) (v := ?z_2_5_10v13) rfl (by kernel_rfl) (by kernel_rfl) (by kernel_rfl) (fun _ _ _ h => hPan _ _ _ _ _ h) (Or.inl ⟨by rfl, ?z_2_5_10y13⟩) (by assumption) ?z_2_5_10r13
  case z_2_5_10y13 => (intro w hSw; (try dsimp only at hSw); go_simp; try (with_reducible rfl))
  case z_2_5_10r13 =>
  try simp only [Act.put, List.setIfInBounds_toArray, List.set_cons_zero, List.set_cons_succ]
  refine wpAnyH_take (i := 14) (oi := { dst := some 92, op := Go.Op.move (Go.Operand.tmp 91), type := 4, pos := "top01.go:35", after := #[{ on := 13, ground := Go.Ground.data }, { on := 10, ground := Go.Ground.chain }], guard := none }) (v := ?z_2_5_10v14) rfl (by kernel_rfl) (by kernel_rfl) (by kernel_rfl) (fun _ _ _ h => hPan _ _ _ _ _ h) (Or.inl ⟨by rfl, ?z_2_5_10y14⟩) (by assumption) ?z_2_5_10r14
  case z_2_5_10y14 => (intro w hSw; (try dsimp only at hSw); go_simp; try (with_reducible rfl))
  case z_2_5_10r14 =>
  try simp only [Act.put, List.setIfInBounds_toArray, List.set_cons_zero, List.set_cons_succ]
  refine wpAnyH_take (i := 16) (oi := { dst := some 94, op := Go.Op.move (Go.Operand.tmp 8), type := 24, pos := "top01.go:35", after := #[{ on := 14, ground := Go.Ground.guard }], guard := some (14, false) }) (v := ?z_2_5_10v16) rfl (by kernel_rfl) (by kernel_rfl) (by kernel_rfl) (fun _ _ _ h => hPan _ _ _ _ _ h) (Or.inl ⟨by rfl, ?z_2_5_10y16⟩) (by assumption) ?z_2_5_10r16
  case z_2_5_10y16 => (intro w hSw; (try dsimp only at hSw); go_simp; try (with_reducible rfl))
  case z_2_5_10r16 =>
  try simp only [Act.put, List.setIfInBounds_toArray, List.set_cons_zero, List.set_cons_succ]
  refine wpAnyH_ready (rs := [15]) (by kernel_rfl) (by simp) ?_
  refine AllReadyH.cons (o := { dst := some 93, op := Go.Op.call { callee := Go.Callee.value (Go.Operand.func 13), args := #[Go.Operand.tmp 6], argTypes := #[34] }, type := 41, pos := "top01.go:35", after := #[{ on := 14, ground := Go.Ground.chain }, { on := 14, ground := Go.Ground.guard }], guard := some (14, false) }) rfl (fun K hK => ?_) (AllReadyH.nil)
  go_simp
  refine (C4.out _ BX.out).mono ?_
  rintro e w6 ⟨rfl, hb6⟩
  go_simp
  have HK := Lib.hid (hHeld.below hb6 hHeld.lt)
  have BX := Lib.hid (BX.out.trans (hb6.mono BX.out.size))
  clear hb6
  refine hK.out _ _ ?_ (fun hHeld => ?_)
  · exact HK.out
  clear hK K
  try simp only [Act.put, List.setIfInBounds_toArray, List.set_cons_zero, List.set_cons_succ]
  refine wpAnyH_ready (rs := [17]) (by kernel_rfl) (by simp) ?_
  refine AllReadyH.cons (o := { dst := some 95, op := Go.Op.call { callee := Go.Callee.value (Go.Operand.func 14), args := #[Go.Operand.tmp 94], argTypes := #[24] }, type := 41, pos := "top01.go:35", after := #[{ on := 16, ground := Go.Ground.data }, { on := 15, ground := Go.Ground.chain }, { on := 14, ground := Go.Ground.guard }], guard := some (14, false) }) rfl (fun K hK => ?_) (AllReadyH.nil)
  go_simp
  refine (C5.out _ BX.out).mono ?_
  rintro e w6 ⟨rfl, hb6⟩
  go_simp
  have HK := Lib.hid (hHeld.below hb6 hHeld.lt)
  have BX := Lib.hid (BX.out.trans (hb6.mono BX.out.size))
  clear hb6
  refine hK.out _ _ ?_ (fun hHeld => ?_)
  · exact HK.out
  clear hK K
  try simp only [Act.put, List.setIfInBounds_toArray, List.set_cons_zero, List.set_cons_succ]
  refine wpAnyH_take (i := 18) (oi := { dst := some 96, op := Go.Op.binOp Go.BinOp.neq 41 (Go.Operand.tmp 93) (Go.Operand.tmp 95) 41, type := 4, pos := "top01.go:35", after := #[{ on := 15, ground := Go.Ground.data }, { on := 17, ground := Go.Ground.data }, { on := 14, ground := Go.Ground.guard }], guard := some (14, false) }) (v := ?z_2_5_10_15_17v18) rfl (by kernel_rfl) (by kernel_rfl) (by kernel_rfl) (fun _ _ _ h => hPan _ _ _ _ _ h) (Or.inl ⟨by rfl, ?z_2_5_10_15_17y18⟩) (by assumption) ?z_2_5_10_15_17r18
  case z_2_5_10_15_17y18 => (intro w hSw; (try dsimp only at hSw); go_simp; try (with_reducible rfl))
  case z_2_5_10_15_17r18 =>
  try simp only [Act.put, List.setIfInBounds_toArray, List.set_cons_zero, List.set_cons_succ]
  refine wpAnyH_take (i := 19) (oi := { dst := some 97, op := Go.Op.pick (Go.Operand.tmp 92) (Go.Operand.const (Go.Value.bool true)) (Go.Operand.tmp 96), type := 4, pos := "top01.go:35", after := #[{ on := 14, ground := Go.Ground.data }, { on := 18, ground := Go.Ground.data }], guard := none }) (v := ?z_2_5_10_15_17v19) rfl (by kernel_rfl) (by kernel_rfl) (by kernel_rfl) (fun _ _ _ h => hPan _ _ _ _ _ h) (Or.inl ⟨by rfl, ?z_2_5_10_15_17y19⟩) (by assumption) ?z_2_5_10_15_17r19
  case z_2_5_10_15_17y19 => (intro w hSw; (try dsimp only at hSw); go_simp; try (with_reducible rfl))
  case z_2_5_10_15_17r19 =>
  try simp only [Act.put, List.setIfInBounds_toArray, List.set_cons_zero, List.set_cons_succ]
  refine wpAnyH_done (by kernel_rfl) ?_ _
  exact HQ.out _ _ _ _ _ _ _ _ _ _ _ _ _ _ _ _ _ _ _ _ BX.out
end Go.Proofs.YtjdicifickjggaaDoor
