/-
  Reading acts over a proper beginning of their bytes ends in the error of the end, and stays there. Conditions: none beyond the acts' own bounds.
-/
import Derived.Test.YtelbcmcffjpdoaaAct2
import Derived.Test.YtelbcmcffjpdoaaWrites
import Derived.Test.YtelbcmcffjpdoaaPure
namespace Go.Proofs.Ytelbcmcffjpdoaa
open Go.RowKit

/-- The error behind an act's reading, and the bytes left. -/
def actR (kd n k : Int) (xs : List UInt8) : Int × List UInt8 :=
  if kd = 1 then (numR 1 k xs).2 else if kd = 2 then (numR 2 k xs).2 else if kd = 3 then (numR 4 k xs).2 else if kd = 4 then (numR 8 k xs).2 else if kd = 5 then (sizeR k xs).2
  else if kd = 6 then (rawR (mOf n) k xs).2 else (listR (mOf n) k xs).2

def lenA (kd n : Int) (bs : List UInt8) : Int := if kd < 1 ∨ kd > 5 then (bs.take 300).length else n
def encA (a : Ac) : List UInt8 := if a.kd = 5 ∧ a.n > 33554432 then [] else actB a.kd a.n a.bs
def catA (al : List Ac) : List UInt8 := al.flatMap encA

theorem encA_le (a : Ac) : (encA a).length ≤ 309 := by
  unfold encA
  split
  · simp
  · exact actB_le _ _ _
theorem catA_le (l : List Ac) : (catA l).length ≤ 309 * l.length := by
  induction l with
  | nil => simp [catA]
  | cons a l ih =>
    have h := encA_le a
    unfold catA at ih ⊢
    rw [List.flatMap_cons, List.length_append, List.length_cons]
    omega
theorem catA_snoc {al : List Ac} {j : Nat} (h : j < al.length) : catA (al.take (j + 1)) = catA (al.take j) ++ encA al[j] := by
  unfold catA
  rw [List.take_succ_eq_append_getElem h, List.flatMap_append]
  simp
theorem catA_cons {al : List Ac} {j n : Nat} (h : j < al.length) (hn : j < n) : catA ((al.take n).drop j) = encA al[j] ++ catA ((al.take n).drop (j + 1)) := by
  unfold catA
  have hl : j < (al.take n).length := by rw [List.length_take]; omega
  rw [List.drop_eq_getElem_cons hl, List.flatMap_cons]
  simp
theorem catA_end {al : List Ac} {n : Nat} : catA ((al.take n).drop n) = [] := by
  unfold catA
  rw [List.drop_eq_nil_of_le (by rw [List.length_take]; omega)]
  rfl

/-- A proper beginning either holds the first part whole, or is a proper beginning of it. -/
theorem proper {xs more us rest : List UInt8} (h : xs ++ more = us ++ rest) : (∃ ys, xs = us ++ ys ∧ ys ++ more = rest) ∨ (xs.length < us.length ∧ ∃ zs, us = xs ++ zs) := by
  rcases List.append_eq_append_iff.1 h with ⟨a, h1, h2⟩ | ⟨c, h1, h2⟩
  · by_cases ha : a = []
    · subst ha
      left
      exact ⟨[], by simpa using h1.symm, by simpa using h2⟩
    · right
      refine ⟨?_, a, h1⟩
      rw [h1, List.length_append]
      have : 0 < a.length := List.length_pos_iff.2 ha
      omega
  · left
    exact ⟨c, h1, h2.symm⟩

theorem sizeP_short {n : Int} {xs zs : List UInt8} (hl : xs.length < (sizeB n).length) (h : sizeB n = xs ++ zs) : sizeP xs = .error 4 := by
  cases xs with
  | nil => unfold sizeP; rw [if_pos (by simp)]
  | cons x t =>
    have long : ∀ (m : Int) (k : Nat), (m = 253 ∧ k = 2) ∨ (m = 254 ∧ k = 4) ∨ (m = 255 ∧ k = 8) → sizeB n = b8 m :: low n k → sizeP (x :: t) = .error 4 := by
      intro m k hm hs
      have hm0 : m % 256 = m := by rcases hm with ⟨rfl, _⟩ | ⟨rfl, _⟩ | ⟨rfl, _⟩ <;> rfl
      have hwd : wd m = k := by rcases hm with ⟨rfl, rfl⟩ | ⟨rfl, rfl⟩ | ⟨rfl, rfl⟩ <;> rfl
      have hge : ¬ m < 253 := by rcases hm with ⟨rfl, _⟩ | ⟨rfl, _⟩ | ⟨rfl, _⟩ <;> decide
      have hx : x = b8 m := by
        rw [hs, List.cons_append] at h
        exact (List.cons.inj h).1.symm
      have ht : t.length < k := by
        rw [hs] at hl
        simp only [List.length_cons, low_length] at hl
        omega
      unfold sizeP
      have hv : val ((x :: t).take 1) = m := by
        have : val ((x :: t).take 1) = x.toNat := by simp [val]
        rw [this, hx, b8_toNat, hm0]
      rw [if_neg (by simp), hv, if_neg hge, hwd, if_pos (by simpa using ht)]
    by_cases c1 : n < 253
    · have hs : sizeB n = [b8 n] := by unfold sizeB; rw [if_pos c1]
      rw [hs] at hl
      simp at hl
    by_cases c2 : n < 65536
    · exact long 253 2 (.inl ⟨rfl, rfl⟩) (by unfold sizeB; rw [if_neg c1, if_pos c2])
    by_cases c3 : n < 4294967296
    · exact long 254 4 (.inr (.inl ⟨rfl, rfl⟩)) (by unfold sizeB; rw [if_neg c1, if_neg c2, if_pos c3])
    · exact long 255 8 (.inr (.inr ⟨rfl, rfl⟩)) (by unfold sizeB; rw [if_neg c1, if_neg c2, if_neg c3])

theorem numR_short {k : Nat} {xs : List UInt8} (h : xs.length < k) : (numR k 0 xs).2.1 = 4 := by
  unfold numR
  rw [if_neg (by decide), if_pos h]

theorem mOf_len {bs : List UInt8} : mOf ((bs.take 300).length : Int) = ((bs.take 300).length : Int) := by
  have h : (bs.take 300).length ≤ 300 := List.length_take_le _ _
  unfold mOf
  rw [if_neg (by omega)]
  omega

theorem act_step {kd n : Int} {bs xs more rest : List UInt8} (h0 : 0 ≤ n) (h1 : n < 18446744073709551616) (hs : ¬ (kd = 5 ∧ n > 33554432)) (h : xs ++ more = actB kd n bs ++ rest) :
    (actR kd (lenA kd n bs) 0 xs).1 = 4 ∨ ((actR kd (lenA kd n bs) 0 xs).1 = 0 ∧ (actR kd (lenA kd n bs) 0 xs).2 ++ more = rest) := by
  have hss : (bs.take 300).length ≤ 300 := List.length_take_le _ _
  rcases proper h with ⟨ys, rfl, hy⟩ | ⟨hl, zs, hz⟩
  · right
    unfold actR actB
    by_cases k1 : kd = 1
    · subst k1
      simp only [if_true]
      have e := numR_one n ys h0
      rw [show ([b8 n] ++ ys : List UInt8) = b8 n :: ys from rfl, e]
      exact ⟨rfl, hy⟩
    rw [if_neg k1, if_neg k1]
    by_cases k2 : kd = 2
    · rw [if_pos k2, if_pos k2, numR_low _ 2 ys (by omega)]
      exact ⟨rfl, hy⟩
    rw [if_neg k2, if_neg k2]
    by_cases k3 : kd = 3
    · rw [if_pos k3, if_pos k3, numR_low _ 4 ys (by omega)]
      exact ⟨rfl, hy⟩
    rw [if_neg k3, if_neg k3]
    by_cases k4 : kd = 4
    · rw [if_pos k4, if_pos k4, numR_low _ 8 ys h0]
      exact ⟨rfl, hy⟩
    rw [if_neg k4, if_neg k4]
    by_cases k5 : kd = 5
    · rw [if_pos k5, if_pos k5, sizeR_sizeB n ys h0 (by omega)]
      exact ⟨rfl, hy⟩
    rw [if_neg k5, if_neg k5]
    have hlen : lenA kd n bs = ((bs.take 300).length : Int) := by unfold lenA; rw [if_pos (by omega)]
    rw [hlen, mOf_len]
    by_cases k6 : kd = 6
    · rw [if_pos k6, if_pos k6, rawR_app]
      exact ⟨rfl, hy⟩
    · rw [if_neg k6, if_neg k6, listR_app _ ys _ (Int.le_refl _) (by omega)]
      exact ⟨rfl, hy⟩
  · left
    unfold actR
    unfold actB at hl hz
    by_cases k1 : kd = 1
    · rw [if_pos k1] at hl ⊢
      exact numR_short (by simpa using hl)
    rw [if_neg k1] at hl hz ⊢
    by_cases k2 : kd = 2
    · rw [if_pos k2] at hl ⊢
      exact numR_short (by rwa [low_length] at hl)
    rw [if_neg k2] at hl hz ⊢
    by_cases k3 : kd = 3
    · rw [if_pos k3] at hl ⊢
      exact numR_short (by rwa [low_length] at hl)
    rw [if_neg k3] at hl hz ⊢
    by_cases k4 : kd = 4
    · rw [if_pos k4] at hl ⊢
      exact numR_short (by rwa [low_length] at hl)
    rw [if_neg k4] at hl hz ⊢
    by_cases k5 : kd = 5
    · rw [if_pos k5] at hl hz ⊢
      unfold sizeR
      rw [if_neg (by decide), sizeP_short hl hz]
    rw [if_neg k5] at hl hz ⊢
    have hlen : lenA kd n bs = ((bs.take 300).length : Int) := by unfold lenA; rw [if_pos (by omega)]
    rw [hlen, mOf_len]
    by_cases k6 : kd = 6
    · rw [if_pos k6] at hl ⊢
      unfold rawR
      rw [if_neg (by decide), if_pos (by omega)]
    · rw [if_neg k6] at hl hz ⊢
      unfold listR listP
      rw [if_neg (by decide)]
      rcases proper hz.symm with ⟨t, hx, ht⟩ | ⟨hl2, z2, hz2⟩
      · have hlt : t.length < (bs.take 300).length := by
          rw [hx, List.length_append, List.length_append] at hl
          omega
        rw [hx, sizeP_sizeB _ t (by omega) (by omega), if_neg (by omega)]
        simp only
        rw [if_neg (by omega), if_pos (by omega)]
      · rw [sizeP_short hl2 hz2]

theorem act_stay {kd n : Int} {xs : List UInt8} : actR kd n 4 xs = (4, xs) := by
  unfold actR numR sizeR rawR listR
  simp

/-- Behind j acts: an error of the end, or a proper beginning of what is left. -/
def Left (ys : List UInt8) (k : Int) (xs : List UInt8) : Prop := k = 4 ∨ (k = 0 ∧ ∃ more, more ≠ [] ∧ xs ++ more = ys)

theorem left_step {a : Ac} {ys xs : List UInt8} {k : Int} (h0 : 0 ≤ a.n) (h1 : a.n < 18446744073709551616) (hs : ¬ (a.kd = 5 ∧ a.n > 33554432)) (h : Left (encA a ++ ys) k xs) :
    Left ys (actR a.kd (lenA a.kd a.n a.bs) k xs).1 (actR a.kd (lenA a.kd a.n a.bs) k xs).2 := by
  rcases h with rfl | ⟨rfl, more, hm, he⟩
  · left
    rw [act_stay]
  · have e : encA a = actB a.kd a.n a.bs := if_neg hs
    rw [e] at he
    rcases act_step h0 h1 hs he with h | ⟨h, h2⟩
    · exact .inl h
    · exact .inr ⟨h, more, hm, h2⟩
theorem left_skip {a : Ac} {ys xs : List UInt8} {k : Int} (hs : a.kd = 5 ∧ a.n > 33554432) (h : Left (encA a ++ ys) k xs) : Left ys k xs := by
  have e : encA a = [] := if_pos hs
  rwa [e, List.nil_append] at h
theorem left_end {k : Int} {xs : List UInt8} (h : Left [] k xs) : k = 4 := by
  rcases h with h | ⟨_, more, hm, he⟩
  · exact h
  · exact absurd (List.append_eq_nil_iff.1 he).2 hm

theorem ract_any (B r p : Nat) (x b v : Value) (bs xs : List UInt8) (k n kd : Int) (w : World) (hx : Byt w B x bs) (hB : B ≤ r) (hp : p ≤ bs.length) (hl : bs.length ≤ 60000) (hk0 : 0 ≤ k) (hk1 : k ≤ 9) (hn0 : 0 ≤ n) (hn1 : n < 18446744073709551616)
    (hc : Cu w r r v k xs) (hxl : xs.length ≤ 60000) (ht : k = 0 → bs.drop p = xs) :
    Calls Try.prog 25 #[.pointer (some ⟨r, 0, none⟩), inV x p k, .agg #[.int .i64 kd, .int .u64 n, b]] w (ReadPost w r x bs (actR kd n k xs)) := by
  unfold actR
  by_cases k1 : kd = 1
  · rw [if_pos k1, k1]
    exact ract1 B r p x b v bs xs k n w hx hB hp hl hk0 hk1 hn0 hn1 hc ht
  rw [if_neg k1]
  by_cases k2 : kd = 2
  · rw [if_pos k2, k2]
    exact ract2 B r p x b v bs xs k n w hx hB hp hl hk0 hk1 hn0 hn1 hc ht
  rw [if_neg k2]
  by_cases k3 : kd = 3
  · rw [if_pos k3, k3]
    exact ract3 B r p x b v bs xs k n w hx hB hp hl hk0 hk1 hn0 hn1 hc ht
  rw [if_neg k3]
  by_cases k4 : kd = 4
  · rw [if_pos k4, k4]
    exact ract4 B r p x b v bs xs k n w hx hB hp hl hk0 hk1 hn0 hn1 hc ht
  rw [if_neg k4]
  by_cases k5 : kd = 5
  · rw [if_pos k5, k5]
    exact ract5 B r p x b v bs xs k n w hx hB hp hl hk0 hk1 hn0 hn1 hc ht
  rw [if_neg k5]
  by_cases k6 : kd = 6
  · rw [if_pos k6, k6]
    exact ract6 B r p x b v bs xs k n w hx hB hp hl hk0 hk1 hn0 hn1 hc hxl ht
  rw [if_neg k6]
  exact ract7 B r p x b v bs xs k n kd w hx hB hp hl hk0 hk1 hn0 hn1 hc hxl ht (by simpa using k1) (by simpa using k2) (by simpa using k3) (by simpa using k4) (by simpa using k5) (by simpa using k6)

end Go.Proofs.Ytelbcmcffjpdoaa
