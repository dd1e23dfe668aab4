/-
  Texts joined: TKept, SnLawP, SnRparse. Conditions: those of each.
-/
import Derived.Test.YtocblkacdoahfaaGreatDoorJ10
import Derived.BigQuiet
import Derived.Deep.QuietTactic
import Derived.IntWalk
import Derived.Deep.RegionHeld
import Derived.OrdersHeld
/-
  The references' Kept: true, where the whole is as Spare made it. Conditions: sizes within the reach.
-/
namespace Go.Proofs.YtocblkacdoahfaaGreatDoor.Tx
open Go.RowKit

end Go.Proofs.YtocblkacdoahfaaGreatDoor.Tx

/-
  The law on pushes. Conditions: none.
-/
namespace Go.Proofs.YtocblkacdoahfaaGreatDoor.Sn
open Go.RowKit Go.Proofs.YtocblkacdoahfaaGreatDoor.Tx

/-- Parse of two pushes. -/
def TwoOps (w : World) (c1 : UInt8) (ds : List UInt8) (e : Ending) (w' : World) : Prop :=
  ∃ A c p q, e = .returned (.tuple #[.slice A 2 c, .int .i64 0]) ∧ p.code = c1 ∧ p.data = ds ∧ OpsAt w' w.heap.size (.slice A 2 c) [p, q] ∧ Below w.heap.size w w'
theorem parse_two (B : Nat) (x : Value) (zs ds es : List UInt8) (c1 c2 : UInt8) (h : parseP zs = some [(c1, ds), (c2, es)]) (w : World) (hx : Byt w B x zs) (hl : zs.length ≤ 60000000) :
    Calls Tryz.prog 35 #[x] w (TwoOps w c1 ds) := by
  refine (parse_any B x zs w hx hl).mono fun e w' hp => ?_
  unfold Parsed at hp
  rw [h] at hp
  obtain ⟨A, c, L, he, hL, ho, hb⟩ := hp
  match L, hL with
  | [p, q], hL =>
    simp only [List.map_cons, List.map_nil, Piece.pair, List.cons.injEq, Prod.mk.injEq] at hL
    exact ⟨A, c, p, q, he, hL.1.1, hL.1.2, ho, hb⟩

theorem row_tinted {w : World} {g : Nat} {bs : List UInt8} (h : Row w g (tinted bs)) (hl : bs.length ≤ 60000000) :
    Byt w w.heap.size (.slice (some ⟨g, 0, none⟩) bs.length (bs.length + 9)) bs ∧ Byt w w.heap.size (.slice (some ⟨g, 0, none⟩) (bs.length + 9) (bs.length + 9)) (tinted bs) := by
  have h1 := h.byt (n := bs.length) (c := bs.length + 9) (by rw [tinted_length]; omega) (by omega) (by unfold maxLen; omega)
  have h2 := h.byt (n := bs.length + 9) (c := bs.length + 9) (by rw [tinted_length]; omega) (by omega) (by unfold maxLen; omega)
  have e1 : (tinted bs).take bs.length = bs := by unfold tinted; exact List.take_left
  have e2 : (tinted bs).take (bs.length + 9) = tinted bs := List.take_of_length_le (by rw [tinted_length]; exact Nat.le_refl _)
  rw [e1] at h1
  rw [e2] at h2
  exact ⟨h1, h2⟩

end Go.Proofs.YtocblkacdoahfaaGreatDoor.Sn

/-
  The reference's Parse and Pushes of layer 11. Conditions: sizes within the reach.
-/
namespace Go.Proofs.YtocblkacdoahfaaGreatDoor.Sn
open Go.RowKit

theorem byt_later {w : World} {B : Nat} {v : Value} {xs : List UInt8} (h : Byt w B v xs) (o : Obj) : Byt (w.alloc o) B v xs := by
  obtain ⟨A, c, hv, hl, hm, hA, hx⟩ := h
  refine ⟨A, c, hv, hl, hm, hA, fun hne => ?_⟩
  obtain ⟨b, o2, e, hb, hc⟩ := hx hne
  exact ⟨b, o2, e, hb, fun j u hu => cell_later ((Below.refl _ w).alloc (Nat.le_refl _) o) (hc j u hu)⟩
theorem Byt.sub {w : World} {B c lo hi n : Nat} {A : Option Addr} {xs : List UInt8} (h : Byt w B (.slice A n c) xs) (h1 : lo ≤ hi) (h2 : hi ≤ xs.length) :
    Byt w B (.slice (if c = lo then A else A.map (fun x => x.add lo)) (hi - lo) (c - lo)) ((xs.drop lo).take (hi - lo)) := by
  obtain ⟨A', c', e, g1, g2, g3, g4⟩ := h
  obtain ⟨e1, e2, e3⟩ := Value.slice.inj e
  subst e1 e2 e3
  have hl : ((xs.drop lo).take (hi - lo)).length = hi - lo := by rw [List.length_take, List.length_drop]; omega
  refine ⟨_, _, by rw [hl], by omega, by omega, fun hn => ?_, fun hne => ?_⟩
  · split at hn
    · obtain ⟨rfl, hc0⟩ := g3 hn
      exact ⟨by simp, by omega⟩
    · cases A with
      | none => obtain ⟨rfl, hc0⟩ := g3 rfl; exact ⟨by simp, by omega⟩
      | some a => exact absurd hn (by simp)
  · obtain ⟨b, o, rfl, hb, hcell⟩ := g4 (fun e => by rw [e] at hne; simp at hne)
    have hlt : lo < hi := by
      rcases Nat.lt_or_ge lo hi with h | h
      · exact h
      · have : hi - lo = 0 := by omega
        rw [this] at hne
        simp at hne
    have hadd : (⟨b, o, none⟩ : Addr).add lo = ⟨b, o + lo, none⟩ := by
      unfold Addr.add
      split <;> simp_all
    refine ⟨b, o + lo, by rw [if_neg (by omega)]; simp [hadd], hb, fun j u hu => ?_⟩
    rw [Nat.add_assoc]
    refine hcell _ u ?_
    rw [List.getElem?_take] at hu
    split at hu
    · rw [← hu, List.getElem?_drop]
    · exact absurd hu (by simp)
theorem run_sub (A : Option Addr) (n c lo hi : Nat) (h1 : lo ≤ hi) (h2 : hi ≤ c) (W : World) :
    (Instr.slice 23 (.slice A n c) (some (.int .i64 (lo : Int))) (some (.int .i64 (hi : Int))) none).run Tryz.prog W = .ok (.slice (if c = lo then A else A.map (fun x => x.add lo)) (hi - lo) (c - lo)) W := by
  obtain ⟨i0, hi0, hz0, hz1, hz2⟩ := info_parts info_u8
  have he : Tryz.prog.elem 23 = 5 := by kernel_rfl
  have ht : Tryz.prog.underlying 23 = some (.slice (Tryz.prog.elem 23)) := by rw [he]; exact slice_u8
  rw [run_slice_lh (ht := ht) (h0 := by omega) (h1 := by omega) (h2 := by omega), he]
  simp [sizeOf, typeInfo, hi0, hz1, sliced, go_sem]


theorem run_part (A : Option Addr) (n c lo hi : Nat) (l h : Int) (hl : l = lo) (hh : h = hi) (h1 : lo ≤ hi) (h2 : hi ≤ c) (W : World) :
    (Instr.slice 23 (.slice A n c) (some (.int .i64 l)) (some (.int .i64 h)) none).run Tryz.prog W = .ok (.slice (if c = lo then A else A.map (fun x => x.add lo)) (hi - lo) (c - lo)) W := by
  subst hl hh
  exact run_sub A n c lo hi h1 h2 W
theorem val_step {xs : List UInt8} {j : Nat} (hj : j < xs.length) : val (xs.drop j) = (xs[j].toNat : Int) + 256 * val (xs.drop (j + 1)) := by
  rw [List.drop_eq_getElem_cons hj]
  rfl

theorem val_le7 {xs : List UInt8} (h : xs.length ≤ 7) : val xs < 72057594037927936 := by
  have h1 := (val_bd xs).2
  have h2 : (256 : Nat) ^ xs.length ≤ 256 ^ 7 := Nat.pow_le_pow_right (by decide) h
  have h3 : (256 : Nat) ^ 7 = 72057594037927936 := by decide
  have h4 : ((256 ^ xs.length : Nat) : Int) = (256 : Int) ^ xs.length := Int.natCast_pow _ _
  omega

/-- How many bytes say how many follow. -/
def wideOf (c : UInt8) : Nat := if c.toNat = 76 then 1 else if c.toNat = 77 then 2 else if c.toNat = 78 then 4 else 0
/-- How many follow. -/
def manyOf (c : UInt8) (rest : List UInt8) : Int := if c.toNat < 76 then c.toNat else val (rest.take (wideOf c))
theorem manyOf_bd (c : UInt8) (rest : List UInt8) : 0 ≤ manyOf c rest ∧ manyOf c rest < 4294967296 := by
  have hc := c.toNat_lt
  unfold manyOf
  split
  · omega
  · have h := val_bd (rest.take (wideOf c))
    have hl : (rest.take (wideOf c)).length ≤ 4 := by
      rw [List.length_take]
      have : wideOf c ≤ 4 := by unfold wideOf; split; omega; split; omega; split <;> omega
      omega
    have h2 : (256 : Nat) ^ (rest.take (wideOf c)).length ≤ 256 ^ 4 := Nat.pow_le_pow_right (by decide) hl
    have h3 : (256 : Nat) ^ 4 = 4294967296 := by decide
    have h4 : ((256 ^ (rest.take (wideOf c)).length : Nat) : Int) = (256 : Int) ^ (rest.take (wideOf c)).length := Int.natCast_pow _ _
    omega
theorem opR_eq (c : UInt8) (rest : List UInt8) (hl : rest.length ≤ 60000000) : opR c rest = if rest.length < wideOf c then ([], 4, rest)
    else if ((rest.drop (wideOf c)).length : Int) < manyOf c rest then ([], 4, rest.drop (wideOf c)) else ((rest.drop (wideOf c)).take (manyOf c rest).toNat, 0, (rest.drop (wideOf c)).drop (manyOf c rest).toNat) := by
  have hc := c.toNat_lt
  have num : ∀ k, numR k 0 rest = if rest.length < k then (0, 4, rest) else (val (rest.take k), 0, rest.drop k) := fun k => by unfold numR; rw [if_neg (by decide)]
  by_cases h1 : c.toNat < 76
  · have hw : wideOf c = 0 := by unfold wideOf; rw [if_neg (by omega), if_neg (by omega), if_neg (by omega)]
    have hm : manyOf c rest = c.toNat := by unfold manyOf; rw [if_pos h1]
    have hs : sizeD c rest = ((c.toNat : Int), 0, rest) := by unfold sizeD; rw [if_pos h1]
    unfold opR
    rw [hs]
    unfold rawR
    dsimp only
    rw [if_neg (by decide), hw, hm, if_neg (show ¬ rest.length < 0 by omega)]
    rfl
  have hm : manyOf c rest = val (rest.take (wideOf c)) := by unfold manyOf; rw [if_neg h1]
  by_cases h5 : c.toNat = 78
  · have hw : wideOf c = 4 := by unfold wideOf; rw [if_neg (by omega), if_neg (by omega), if_pos h5]
    have hb := (manyOf_bd c rest).2
    rw [hm, hw] at hb
    by_cases hs : rest.length < 4
    · have hs2 : sizeD c rest = (0, 4, rest) := by unfold sizeD; rw [if_neg h1, if_neg (by omega), if_neg (by omega), if_pos h5, num, if_pos hs]; rfl
      unfold opR
      rw [hs2, hw, if_pos hs]
      unfold rawR
      dsimp only
      rw [if_pos (by decide)]
    · have hs2 : sizeD c rest = (min (val (rest.take 4)) 2147483647, 0, rest.drop 4) := by unfold sizeD; rw [if_neg h1, if_neg (by omega), if_neg (by omega), if_pos h5, num, if_neg hs]
      unfold opR
      rw [hs2, hm, hw, if_neg hs]
      unfold rawR
      dsimp only
      rw [if_neg (by decide)]
      have hd : (rest.drop 4).length ≤ 60000000 := by rw [List.length_drop]; omega
      by_cases hv : val (rest.take 4) ≤ 2147483647
      · rw [Int.min_eq_left hv]
      · rw [Int.min_eq_right (by omega), if_pos (by omega), if_pos (by omega)]
  · have hs : sizeD c rest = if rest.length < wideOf c then (0, 4, rest) else (val (rest.take (wideOf c)), 0, rest.drop (wideOf c)) := by
      unfold sizeD
      rw [if_neg h1]
      by_cases h3 : c.toNat = 76
      · have hw : wideOf c = 1 := by unfold wideOf; rw [if_pos h3]
        rw [if_pos h3, hw, num]
      · rw [if_neg h3]
        by_cases h4 : c.toNat = 77
        · have hw : wideOf c = 2 := by unfold wideOf; rw [if_neg h3, if_pos h4]
          rw [if_pos h4, hw, num]
        · have hw : wideOf c = 0 := by unfold wideOf; rw [if_neg h3, if_neg h4, if_neg h5]
          rw [if_neg h4, if_neg h5, hw, if_neg (by omega)]
          rfl
    unfold opR
    rw [hs, hm]
    by_cases hq : rest.length < wideOf c
    · rw [if_pos hq, if_pos hq]
      unfold rawR
      dsimp only
      rw [if_pos (by decide)]
    · rw [if_neg hq, if_neg hq]
      unfold rawR
      dsimp only
      rw [if_neg (by decide)]

end Go.Proofs.YtocblkacdoahfaaGreatDoor.Sn
