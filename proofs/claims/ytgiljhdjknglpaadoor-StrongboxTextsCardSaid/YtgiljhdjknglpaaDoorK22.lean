/-
  Texts joined: B5Q, THex, GrpPure. Conditions: those of each.
-/
import Derived.Test.YtgiljhdjknglpaaDoorK21
import Derived.Test.YtgiljhdjknglpaaDoorK13
import Derived.Test.YtgiljhdjknglpaaDoorK6
/-
  Pure: letters and places, and how long. Conditions: none.
-/
namespace Go.Proofs.YtgiljhdjknglpaaDoor
open Go.RowKit

theorem letter_pos_fin : ∀ d : Fin 58, posB b58D (b58D.data.toList.getD d.val 0) = (d.val : Int) := by decide +kernel
theorem letter_pos {n : Nat} (h : n < 58) : posB b58D (b58D.data.toList.getD n 0) = (n : Int) := letter_pos_fin ⟨n, h⟩
theorem places_letters {out : List UInt8} (h : ∀ d ∈ out, d.toNat < 58) : placesB b58D (letters b58D out) = out ∧ ∀ c ∈ letters b58D out, 0 ≤ posB b58D c := by
  induction out with
  | nil => exact ⟨rfl, fun c h => by cases h⟩
  | cons d r ih =>
    obtain ⟨h1, h2⟩ := ih (fun e he => h e (List.mem_cons_of_mem _ he))
    have hp := letter_pos (h d (List.mem_cons_self ..))
    have e1 : letters b58D (d :: r) = b58D.data.toList.getD d.toNat 0 :: letters b58D r := rfl
    have e2 : placesB b58D (b58D.data.toList.getD d.toNat 0 :: letters b58D r) = b8 (posB b58D (b58D.data.toList.getD d.toNat 0)) :: placesB b58D (letters b58D r) := rfl
    rw [e1]
    refine ⟨?_, ?_⟩
    · rw [e2, hp, h1]
      congr 1
      apply UInt8.toNat_inj.1
      have := b8_toNat ((d.toNat : Nat) : Int)
      have := d.toNat_lt
      omega
    · intro c hc
      rcases List.mem_cons.1 hc with rfl | hc
      · rw [hp]; omega
      · exact h2 c hc
theorem letters_places {cs : List UInt8} (h : ∀ c ∈ cs, 0 ≤ posB b58D c) : letters b58D (placesB b58D cs) = cs := by
  induction cs with
  | nil => rfl
  | cons c r ih =>
    have h2 := ih (fun e he => h e (List.mem_cons_of_mem _ he))
    have h0 := h c (List.mem_cons_self ..)
    have hr := posB_range8 b58D c
    have h58' : (b58D.size : Int) = 58 := rfl
    have hb := b8_toNat (posB b58D c)
    have hp := letter_pos (n := (b8 (posB b58D c)).toNat) (by omega)
    have e1 : letters b58D (placesB b58D (c :: r)) = b58D.data.toList.getD (b8 (posB b58D c)).toNat 0 :: letters b58D (placesB b58D r) := rfl
    rw [e1, h2]
    congr 1
    exact posB_inj8 (by rw [hp]; omega) (by rw [hp]; omega)
theorem reb_short {ds out : List UInt8} (h : RebOf 58 256 ds out) (hl : ds.length ≤ 124) : out.length ≤ 250 := by
  obtain ⟨asc, ⟨k, rfl, _, hj⟩, rfl⟩ := h
  have hz := zerosN_le ds
  have hv := valF_pow (b := 256) (ds.drop (zerosN ds)) (fun d _ => d.toNat_lt)
  rw [List.length_drop] at hv
  rw [List.length_append, List.length_replicate, List.length_reverse, digitsL_length]
  rcases Nat.eq_zero_or_pos k with rfl | hk
  · omega
  · have h1 := hj (k - 1) (by omega)
    have h2 : 58 ^ (k - 1) ≤ valF 256 (ds.drop (zerosN ds)) := by
      rcases Nat.lt_or_ge (valF 256 (ds.drop (zerosN ds))) (58 ^ (k - 1)) with h | h
      · exact absurd (Nat.div_eq_of_lt h) h1
      · exact h
    have h3 : 2 ^ (5 * (k - 1)) ≤ 58 ^ (k - 1) := by
      rw [Nat.pow_mul]
      exact Nat.pow_le_pow_left (by decide) _
    have h4 : (256 : Nat) ^ (ds.length - zerosN ds) = 2 ^ (8 * (ds.length - zerosN ds)) := by rw [Nat.pow_mul]
    have h5 : 2 ^ (5 * (k - 1)) < 2 ^ (8 * (ds.length - zerosN ds)) := by omega
    have h6 := (Nat.pow_lt_pow_iff_right (by decide : 1 < 2)).1 h5
    omega
theorem dec_of_reb {ds out : List UInt8} (h : RebOf 58 256 ds out) (hl : ds.length ≤ 124) : Dec (letters b58D out) 0 ds := by
  obtain ⟨h1, h2⟩ := places_letters (reb_small h (by decide) (by decide))
  refine .inr (.inr ⟨by rw [letters_length]; exact reb_short h hl, h2, rfl, ?_⟩)
  rw [h1]
  exact reb_back h (by decide) (by decide) (by decide) (by decide) (fun d _ => d.toNat_lt)
theorem chk_back (b : List UInt8) : chkF 0 (b ++ sum4 b) = (0, b) := by
  have h := sum4_length b
  have e : (b ++ sum4 b).length - 4 = b.length := by rw [List.length_append, h]; omega
  unfold chkF
  rw [if_neg (by simp), if_neg (by rw [List.length_append]; omega), e, List.take_left, List.drop_left, if_pos rfl]
/-- What stands spelled so is what is spelled so. -/
theorem dec_again {cs u out : List UInt8} (h : Dec cs 0 u) (h2 : RebOf 58 256 u out) : letters b58D out = cs := by
  rcases h with ⟨_, h, _⟩ | ⟨_, _, h, _⟩ | ⟨h1, ha, _, h3⟩
  · exact absurd h (by decide)
  · exact absurd h (by decide)
  · have hs : ∀ d ∈ placesB b58D cs, d.toNat < 58 := fun d hd => by
      unfold placesB at hd
      obtain ⟨c1, hc1, rfl⟩ := List.mem_map.1 hd
      have a2 := posB_range8 b58D c1
      have a3 := ha c1 hc1
      have a4 := b8_toNat (posB b58D c1)
      have h58' : (b58D.size : Int) = 58 := rfl
      omega
    have hb := reb_back h3 (by decide) (by decide) (by decide) (by decide) hs
    rw [h2.unique hb]
    exact letters_places ha
end Go.Proofs.YtgiljhdjknglpaaDoor

/-
  The law on hexadecimal digits. Conditions: the listed table holds what its text lays.
-/
namespace Go.Proofs.YtgiljhdjknglpaaDoor
open Go.RowKit

theorem val_dig_fin : ∀ n : Fin 16, valB (b8 (digI (n.val : Int))) = (n.val : Int) := by decide +kernel
theorem val_dig {n : Int} (h0 : 0 ≤ n) (h1 : n < 16) : valB (b8 (digI n)) = n := by
  have h := val_dig_fin ⟨n.toNat, by omega⟩
  have e : ((n.toNat : Nat) : Int) = n := by omega
  dsimp only at h
  rw [e] at h
  exact h
theorem outL_cons (a b : UInt8) (cs : List UInt8) (n : Nat) : outL (a :: b :: cs) (n + 1) = b8 (16 * valB a + valB b) :: outL cs n := by
  unfold outL
  rw [List.range_succ_eq_map, List.map_cons, List.map_map]
  congr 1
theorem hex_back (xs : List UInt8) : GoodHex (digsOf xs) ∧ outL (digsOf xs) xs.length = xs := by
  induction xs with
  | nil => exact ⟨⟨rfl, fun c h => by cases h⟩, rfl⟩
  | cons c xs ih =>
    obtain ⟨⟨h1, h2⟩, h3⟩ := ih
    have hc := c.toNat_lt
    have e : digsOf (c :: xs) = b8 (digI ((c.toNat : Int) / 16)) :: b8 (digI ((c.toNat : Int) % 16)) :: digsOf xs := rfl
    have v1 := val_dig (n := (c.toNat : Int) / 16) (by omega) (by omega)
    have v2 := val_dig (n := (c.toNat : Int) % 16) (by omega) (by omega)
    rw [e]
    refine ⟨⟨by simp only [List.length_cons]; omega, ?_⟩, ?_⟩
    · intro d hd
      simp only [List.mem_cons] at hd
      rcases hd with rfl | rfl | hd
      · rw [v1]; omega
      · rw [v2]; omega
      · exact h2 d hd
    · rw [List.length_cons, outL_cons, v1, v2, h3]
      congr 1
      apply UInt8.toNat_inj.1
      have := b8_toNat (16 * ((c.toNat : Int) / 16) + (c.toNat : Int) % 16)
      omega

theorem hexp2_any (B : Nat) (x : Value) (xs : List UInt8) (w : World) (hx : Byt w B x xs) (hB : B ≤ w.heap.size) (hl : xs.length ≤ 30000) :
    Calls Tryd.prog 14 #[x] w fun e w' => e = .returned (.string ⟨(digsOf xs).toArray⟩) ∧ Below w.heap.size w w' := by
  rw [← digs_letters]
  exact hexp_any B x xs w hx hB hl

/-- A string and its bytes. -/
theorem toList_mk (l : List UInt8) : (ByteArray.data ⟨l.toArray⟩).toList = l := rfl

end Go.Proofs.YtgiljhdjknglpaaDoor

/-
  Values of some bits as values of others, on lists of bits. Conditions: none (plain mathematics).
-/
namespace Go.Proofs.YtgiljhdjknglpaaDoor
open Go.RowKit

/-- A list of bits as a number, the first one counts most. -/
def valN (l : List Nat) : Nat := l.foldl (fun a x => 2 * a + x) 0
def Bin (l : List Nat) : Prop := ∀ x ∈ l, x < 2
theorem valN_from (l : List Nat) : ∀ a, l.foldl (fun a x => 2 * a + x) a = a * 2 ^ l.length + valN l := by
  induction l with
  | nil => intro a; simp [valN]
  | cons x l ih =>
    intro a
    have e : valN (x :: l) = x * 2 ^ l.length + valN l := by
      show l.foldl _ (2 * 0 + x) = _
      rw [ih]; simp
    rw [List.foldl_cons, ih, e, List.length_cons, Nat.pow_succ, Nat.add_mul]
    have : 2 * a * 2 ^ l.length = a * (2 ^ l.length * 2) := by rw [Nat.mul_comm 2 a, Nat.mul_assoc, Nat.mul_comm 2]
    omega
theorem valN_cons (x : Nat) (l : List Nat) : valN (x :: l) = x * 2 ^ l.length + valN l := by
  show l.foldl _ (2 * 0 + x) = _
  rw [valN_from]; simp
theorem valN_append (a b : List Nat) : valN (a ++ b) = valN a * 2 ^ b.length + valN b := by
  unfold valN
  rw [List.foldl_append]
  exact valN_from b _
theorem valN_snoc (a : List Nat) (x : Nat) : valN (a ++ [x]) = 2 * valN a + x := by
  rw [valN_append]; simp [valN]; omega
theorem valN_lt {l : List Nat} (h : Bin l) : valN l < 2 ^ l.length := by
  induction l with
  | nil => simp [valN]
  | cons x l ih =>
    have hx := h x List.mem_cons_self
    have := ih (fun y hy => h y (List.mem_cons_of_mem _ hy))
    rw [valN_cons, List.length_cons, Nat.pow_succ]
    have h2 : x * 2 ^ l.length ≤ 1 * 2 ^ l.length := Nat.mul_le_mul_right _ (by omega)
    omega
theorem valN_zeros (n : Nat) : valN (List.replicate n 0) = 0 := by
  induction n with
  | zero => rfl
  | succ n ih => rw [List.replicate_succ, valN_cons, ih]; simp
theorem valN_zero {l : List Nat} (h : valN l = 0) : ∀ x ∈ l, x = 0 := by
  induction l with
  | nil => intro x hx; cases hx
  | cons y l ih =>
    rw [valN_cons] at h
    have h1 : y * 2 ^ l.length = 0 := by omega
    have h2 : valN l = 0 := by omega
    have hp : 0 < 2 ^ l.length := Nat.two_pow_pos _
    have hy : y = 0 := by
      rcases Nat.mul_eq_zero.1 h1 with h | h
      · exact h
      · omega
    intro x hx
    rcases List.mem_cons.1 hx with rfl | hx
    · exact hy
    · exact ih h2 x hx

/-- The n bits of a number. -/
def bitsV (n v : Nat) : List Nat := (List.range n).map fun k => v / 2 ^ (n - 1 - k) % 2
theorem bitsV_length (n v : Nat) : (bitsV n v).length = n := by simp [bitsV]
theorem bitsV_bin (n v : Nat) : Bin (bitsV n v) := by
  intro x hx
  unfold bitsV at hx
  obtain ⟨k, _, rfl⟩ := List.mem_map.1 hx
  exact Nat.mod_lt _ (by omega)
theorem bitsV_succ (n v : Nat) : bitsV (n + 1) v = bitsV n (v / 2) ++ [v % 2] := by
  unfold bitsV
  rw [List.range_succ, List.map_append, List.map_cons, List.map_nil]
  congr 1
  · apply List.map_congr_left
    intro k hk
    have hk := List.mem_range.1 hk
    have e : n + 1 - 1 - k = (n - 1 - k) + 1 := by omega
    rw [e, Nat.pow_succ, Nat.mul_comm, ← Nat.div_div_eq_div_mul]
  · simp
theorem bitsV_val : ∀ (n v : Nat), v < 2 ^ n → valN (bitsV n v) = v
  | 0, v, h => by simp at h; subst h; rfl
  | n + 1, v, h => by
    rw [bitsV_succ, valN_snoc, bitsV_val n (v / 2) (by rw [Nat.pow_succ] at h; omega)]
    omega
theorem val_bitsV : ∀ (l : List Nat), Bin l → bitsV l.length (valN l) = l := by
  intro l
  obtain ⟨r, hr⟩ : ∃ r, r = l.reverse := ⟨_, rfl⟩
  have hp : l = r.reverse := by rw [hr, List.reverse_reverse]
  rw [hp]
  clear hp hr l
  induction r with
  | nil => intro _; rfl
  | cons x r ih =>
    intro h
    rw [List.reverse_cons] at h ⊢
    have hx : x < 2 := h x (by simp)
    have h1 : Bin r.reverse := fun y hy => h y (List.mem_append_left _ hy)
    rw [List.length_append, List.length_cons, List.length_nil, Nat.zero_add, bitsV_succ, valN_snoc]
    have e1 : (2 * valN r.reverse + x) / 2 = valN r.reverse := by omega
    have e2 : (2 * valN r.reverse + x) % 2 = x := by omega
    rw [e1, e2, ih h1]

def bitsAll (n : Nat) (ds : List UInt8) : List Nat := ds.flatMap fun d => bitsV n d.toNat
theorem bitsAll_length (n : Nat) (ds : List UInt8) : (bitsAll n ds).length = ds.length * n := by
  induction ds with
  | nil => simp [bitsAll]
  | cons d ds ih => unfold bitsAll at ih ⊢; rw [List.flatMap_cons, List.length_append, ih, bitsV_length, List.length_cons, Nat.add_mul]; omega
theorem bitsAll_bin (n : Nat) (ds : List UInt8) : Bin (bitsAll n ds) := by
  intro x hx
  unfold bitsAll at hx
  obtain ⟨d, _, h⟩ := List.mem_flatMap.1 hx
  exact bitsV_bin n _ x h
theorem bitsAll_snoc (n : Nat) {ds : List UInt8} {i : Nat} {d : UInt8} (h : ds[i]? = some d) : bitsAll n (ds.take (i + 1)) = bitsAll n (ds.take i) ++ bitsV n d.toNat := by
  unfold bitsAll
  rw [List.take_add_one, h, List.flatMap_append]
  simp
theorem bitsAll_append (n : Nat) (a b : List UInt8) : bitsAll n (a ++ b) = bitsAll n a ++ bitsAll n b := by
  unfold bitsAll
  rw [List.flatMap_append]

/-- The first q values of t bits. -/
def outsN (t : Nat) (l : List Nat) (q : Nat) : List UInt8 := (List.range q).map fun j => b8 ((valN ((l.drop (t * j)).take t) : Nat) : Int)
theorem outsN_length (t : Nat) (l : List Nat) (q : Nat) : (outsN t l q).length = q := by simp [outsN]
theorem outsN_succ (t : Nat) (l : List Nat) (q : Nat) : outsN t l (q + 1) = outsN t l q ++ [b8 ((valN ((l.drop (t * q)).take t) : Nat) : Int)] := by
  unfold outsN
  rw [List.range_succ, List.map_append]
  rfl
theorem outsN_more {t : Nat} {l : List Nat} {q : Nat} (m : List Nat) (h : t * q ≤ l.length) : outsN t (l ++ m) q = outsN t l q := by
  unfold outsN
  apply List.map_congr_left
  intro j hj
  have hj := List.mem_range.1 hj
  have h1 : t * (j + 1) ≤ t * q := Nat.mul_le_mul_left t hj
  have h2 : t * (j + 1) = t * j + t := by rw [Nat.mul_add, Nat.mul_one]
  rw [List.drop_append_of_le_length (by omega), List.take_append_of_le_length (by rw [List.length_drop]; omega)]

/-- One value less in what is left. -/
theorem split_left {l : List Nat} {t : Nat} (hb : Bin l) : valN l / 2 ^ (l.length - t) = valN (l.take t) ∧ valN l % 2 ^ (l.length - t) = valN (l.drop t) := by
  have e : valN l = valN (l.take t) * 2 ^ (l.length - t) + valN (l.drop t) := by
    conv => lhs; rw [← List.take_append_drop t l]
    rw [valN_append, List.length_drop]
  have hlt : valN (l.drop t) < 2 ^ (l.length - t) := by
    have := valN_lt (l := l.drop t) (fun x hx => hb x (List.mem_of_mem_drop hx))
    rwa [List.length_drop] at this
  have hp : 0 < 2 ^ (l.length - t) := Nat.two_pow_pos _
  rw [e]
  constructor
  · rw [Nat.mul_comm, Nat.mul_add_div hp, Nat.div_eq_of_lt hlt, Nat.add_zero]
  · rw [Nat.mul_comm, Nat.mul_add_mod, Nat.mod_eq_of_lt hlt]

/-- What regrouping comes to: an error's number, and the values. -/
def regS (f t : Int) (pad : Bool) (ds : List UInt8) : Int × List UInt8 :=
  if f < 1 ∨ 8 < f ∨ t < 1 ∨ 8 < t then (1, [])
  else if ∃ d ∈ ds, 2 ^ f.toNat ≤ d.toNat then (3, [])
  else
    let l := bitsAll f.toNat ds
    let q := l.length / t.toNat
    let m := l.drop (t.toNat * q)
    if pad then (0, if 0 < m.length then outsN t.toNat l q ++ [b8 ((valN (m ++ List.replicate (t.toNat - m.length) 0) : Nat) : Int)] else outsN t.toNat l q)
    else if f.toNat ≤ m.length ∨ valN m ≠ 0 then (3, []) else (0, outsN t.toNat l q)

theorem b8_of_lt {n : Nat} (h : n < 256) : (b8 (n : Int)).toNat = n := by
  have := b8_toNat (n : Int)
  omega
/-- Values of t bits are the bits again. -/
theorem outs_bits {t : Nat} {l : List Nat} (hb : Bin l) (ht : t ≤ 8) : ∀ q, t * q ≤ l.length → bitsAll t (outsN t l q) = l.take (t * q)
  | 0, _ => by simp [outsN, bitsAll]
  | q + 1, h => by
    have h2 : t * (q + 1) = t * q + t := by rw [Nat.mul_add, Nat.mul_one]
    have ih := outs_bits hb ht q (by omega)
    have hc : ((l.drop (t * q)).take t).length = t := by rw [List.length_take, List.length_drop]; omega
    have hcb : Bin ((l.drop (t * q)).take t) := fun x hx => hb x (List.mem_of_mem_drop (List.mem_of_mem_take hx))
    have hv := valN_lt hcb
    rw [hc] at hv
    have h256 : (2 : Nat) ^ t ≤ 2 ^ 8 := Nat.pow_le_pow_right (by omega) ht
    have hb1 := val_bitsV _ hcb
    rw [hc] at hb1
    rw [outsN_succ, bitsAll_append, ih]
    have e : bitsAll t [b8 ((valN ((l.drop (t * q)).take t) : Nat) : Int)] = (l.drop (t * q)).take t := by
      unfold bitsAll
      simp only [List.flatMap_cons, List.flatMap_nil, List.append_nil]
      rw [b8_of_lt (by omega), hb1]
    rw [e, h2, List.take_add]
theorem outs_small {t : Nat} {l : List Nat} (hb : Bin l) (ht : t ≤ 8) {q : Nat} : ∀ d ∈ outsN t l q, d.toNat < 2 ^ t := by
  intro d hd
  unfold outsN at hd
  obtain ⟨j, hj, rfl⟩ := List.mem_map.1 hd
  have hj := List.mem_range.1 hj
  have hcb : Bin ((l.drop (t * j)).take t) := fun x hx => hb x (List.mem_of_mem_drop (List.mem_of_mem_take hx))
  have hv := valN_lt hcb
  have hl : ((l.drop (t * j)).take t).length ≤ t := List.length_take_le _ _
  have h1 : (2 : Nat) ^ ((l.drop (t * j)).take t).length ≤ 2 ^ t := Nat.pow_le_pow_right (by omega) hl
  have h256 : (2 : Nat) ^ t ≤ 2 ^ 8 := Nat.pow_le_pow_right (by omega) ht
  rw [b8_of_lt (by omega)]
  omega
/-- The values of f bits of bits that were made of values. -/
theorem outs_back {f : Nat} (ds : List UInt8) (hd : ∀ d ∈ ds, d.toNat < 2 ^ f) (z : List Nat) : outsN f (bitsAll f ds ++ z) ds.length = ds := by
  have hl := bitsAll_length f ds
  rw [outsN_more z (by rw [hl, Nat.mul_comm]; exact Nat.le_refl _)]
  induction ds with
  | nil => rfl
  | cons d ds ih =>
    have ih := ih (fun x hx => hd x (List.mem_cons_of_mem _ hx)) (bitsAll_length f ds)
    have hd0 := hd d List.mem_cons_self
    have e : bitsAll f (d :: ds) = bitsV f d.toNat ++ bitsAll f ds := rfl
    rw [List.length_cons]
    unfold outsN at ih ⊢
    rw [List.range_succ_eq_map, List.map_cons, List.map_map, e]
    congr 1
    · rw [Nat.mul_zero, List.drop_zero, List.take_append_of_le_length (by rw [bitsV_length]; exact Nat.le_refl _), List.take_of_length_le (by rw [bitsV_length]; exact Nat.le_refl _), bitsV_val _ _ hd0]
      apply UInt8.toNat_inj.1
      exact b8_of_lt d.toNat_lt
    · refine Eq.trans ?_ ih
      apply List.map_congr_left
      intro j _
      show b8 _ = b8 _
      have e2 : f * (j + 1) = f + f * j := by rw [Nat.mul_add, Nat.mul_one, Nat.add_comm]
      rw [Nat.succ_eq_add_one, e2, ← List.drop_drop, List.drop_append_of_le_length (by rw [bitsV_length]; exact Nat.le_refl _)]
      have e3 : (bitsV f d.toNat).drop f = [] := List.drop_eq_nil_of_le (by rw [bitsV_length]; exact Nat.le_refl _)
      rw [e3, List.nil_append]

/-- Fewer bits a value, padded: and back without a padding. -/
theorem reg_back {f t : Nat} {ds : List UInt8} (hf0 : 1 ≤ f) (hf : f ≤ 8) (ht0 : 1 ≤ t) (ht : t ≤ 8) (htf : t ≤ f) (hd : ∀ d ∈ ds, d.toNat < 2 ^ f) :
    regS t f false (regS f t true ds).2 = (0, ds) := by
  obtain ⟨l, hl⟩ : ∃ l, l = bitsAll f ds := ⟨_, rfl⟩
  have hlen : l.length = ds.length * f := by rw [hl, bitsAll_length]
  have hbin : Bin l := by rw [hl]; exact bitsAll_bin f ds
  obtain ⟨q, hq⟩ : ∃ q, q = l.length / t := ⟨_, rfl⟩
  obtain ⟨m, hm⟩ : ∃ m, m = l.drop (t * q) := ⟨_, rfl⟩
  have hqt : t * q ≤ l.length := by rw [hq]; exact Nat.mul_div_le _ _
  have hmt : l.length < t * q + t := by
    have := Nat.lt_mul_div_succ l.length (show 0 < t by omega)
    rw [← hq, Nat.mul_add, Nat.mul_one] at this
    exact this
  have hml : m.length < t := by rw [hm, List.length_drop]; omega
  have e1 : (f : Int).toNat = f := Int.toNat_natCast _
  have e2 : (t : Int).toNat = t := Int.toNat_natCast _
  have hnb : ¬ ∃ d ∈ ds, 2 ^ f ≤ d.toNat := fun ⟨d, h1, h2⟩ => by have := hd d h1; omega
  -- the values and the bits that they are
  obtain ⟨z, out, hout, hz, hob, hos⟩ : ∃ (z : List Nat) (out : List UInt8), regS f t true ds = (0, out) ∧ (z = List.replicate z.length 0 ∧ z.length < t) ∧ bitsAll t out = l ++ z ∧ ∀ d ∈ out, d.toNat < 2 ^ t := by
    have hreg : regS f t true ds = (0, if 0 < m.length then outsN t l q ++ [b8 ((valN (m ++ List.replicate (t - m.length) 0) : Nat) : Int)] else outsN t l q) := by
      unfold regS
      rw [if_neg (by omega), e1, e2, if_neg hnb]
      simp only [← hl, ← hq, ← hm, if_true]
    by_cases hm0 : 0 < m.length
    · refine ⟨List.replicate (t - m.length) 0, _, by rw [hreg, if_pos hm0], ⟨by simp, by simp; omega⟩, ?_, ?_⟩
      · have hcb : Bin (m ++ List.replicate (t - m.length) 0) := by
          intro x hx
          rcases List.mem_append.1 hx with h | h
          · rw [hm] at h; exact hbin x (List.mem_of_mem_drop h)
          · rw [List.eq_of_mem_replicate h]; omega
        have hcl : (m ++ List.replicate (t - m.length) 0).length = t := by rw [List.length_append, List.length_replicate]; omega
        have hv := valN_lt hcb
        rw [hcl] at hv
        have h256 : (2 : Nat) ^ t ≤ 2 ^ 8 := Nat.pow_le_pow_right (by omega) ht
        have hvb := val_bitsV _ hcb
        rw [hcl] at hvb
        rw [bitsAll_append, outs_bits hbin ht q hqt]
        have e : bitsAll t [b8 ((valN (m ++ List.replicate (t - m.length) 0) : Nat) : Int)] = m ++ List.replicate (t - m.length) 0 := by
          unfold bitsAll
          simp only [List.flatMap_cons, List.flatMap_nil, List.append_nil]
          rw [b8_of_lt (by omega), hvb]
        rw [e, ← List.append_assoc, hm, List.take_append_drop]
      · intro d hd'
        rcases List.mem_append.1 hd' with h | h
        · exact outs_small hbin ht d h
        · have hcb : Bin (m ++ List.replicate (t - m.length) 0) := by
            intro x hx
            rcases List.mem_append.1 hx with h | h
            · rw [hm] at h; exact hbin x (List.mem_of_mem_drop h)
            · rw [List.eq_of_mem_replicate h]; omega
          have hcl : (m ++ List.replicate (t - m.length) 0).length = t := by rw [List.length_append, List.length_replicate]; omega
          have hv := valN_lt hcb
          rw [hcl] at hv
          have h256 : (2 : Nat) ^ t ≤ 2 ^ 8 := Nat.pow_le_pow_right (by omega) ht
          rw [List.mem_singleton.1 h, b8_of_lt (by omega)]
          exact hv
    · have hmn : m = [] := List.eq_nil_of_length_eq_zero (by omega)
      refine ⟨[], _, by rw [hreg, if_neg hm0], ⟨rfl, by simp; omega⟩, ?_, outs_small hbin ht⟩
      rw [outs_bits hbin ht q hqt, List.append_nil]
      have := List.take_append_drop (t * q) l
      rw [← hm, hmn, List.append_nil] at this
      exact this
  rw [hout]
  show regS t f false out = (0, ds)
  have hl2 : (l ++ z).length / f = ds.length := by
    rw [List.length_append, hlen, Nat.mul_comm]
    rw [Nat.mul_add_div (by omega), Nat.div_eq_of_lt (by omega)]
    simp
  have hdrop : (l ++ z).drop (f * ds.length) = z := by
    rw [Nat.mul_comm, ← hlen, List.drop_left]
  have hvz : valN z = 0 := by rw [hz.1]; exact valN_zeros _
  have hnb2 : ¬ ∃ d ∈ out, 2 ^ t ≤ d.toNat := fun ⟨d, h1, h2⟩ => by have := hos d h1; omega
  unfold regS
  rw [if_neg (by omega), e2, e1, if_neg hnb2]
  simp only [hob, hl2, hdrop, hvz]
  rw [if_neg (by simp), if_neg (by simp; omega)]
  rw [hl, outs_back ds hd z]
end Go.Proofs.YtgiljhdjknglpaaDoor
