/-
  script.Kind at the form of many keys. Conditions: sixteen keys at most, thirty-three bytes each.
-/
import Derived.Test.YtadgaeokiolmmaaSnMparts
namespace Go.Proofs.Ytadgaeokiolmmaa
open Go.RowKit

theorem parse_push {c : UInt8} {k : List UInt8} (hc : c.toNat = k.length) (h : k.length < 76) (xs : List UInt8) : parseP (c :: (k ++ xs)) = (parseP xs).map ((c, k) :: ·) := by
  have q : opR c (k ++ xs) = (k, 0, xs) := by
    unfold opR sizeD
    rw [if_pos (by omega)]
    dsimp only
    rw [hc]
    exact rawR_app k xs
  rw [parseP_ok (by rw [q]), q]
theorem vcode_nat {v : Int} (h0 : 0 < v) (h1 : v ≤ 16) : (vcode v).toNat = 80 + v.toNat := by
  unfold vcode
  rw [if_neg (by omega), UInt8.toNat_ofNat', Nat.mod_eq_of_lt (by omega)]
theorem parse_keys (ks : List (List UInt8)) (h : ks.any (fun k => k.length != 33) = false) (xs : List UInt8) : parseP (flatK ks ++ xs) = (parseP xs).map (ks.map (fun k => ((33 : UInt8), k)) ++ ·) := by
  induction ks with
  | nil => unfold flatK; simp
  | cons k ks ih =>
    rw [List.any_cons, Bool.or_eq_false_iff] at h
    have hk : k.length = 33 := by simpa using h.1
    have e : flatK (k :: ks) ++ xs = 33 :: (k ++ (flatK ks ++ xs)) := by unfold flatK; simp
    rw [e, parse_push (by rw [hk]; rfl) (by omega), ih h.2, Option.map_map]
    rfl
def multiOps (m : Int) (ks : List (List UInt8)) : List (UInt8 × List UInt8) := (vcode m, []) :: (ks.map (fun k => ((33 : UInt8), k)) ++ [(vcode (ks.length : Int), []), (174, [])])
theorem parse_multi (m : Int) (ks : List (List UInt8)) (h : ks.any (fun k => k.length != 33) = false) (h0 : 1 ≤ m) (h1 : m ≤ (ks.length : Int)) (h2 : ks.length ≤ 16) : parseP (multiForm m ks) = some (multiOps m ks) := by
  have e : multiForm m ks = vcode m :: (flatK ks ++ (vcode (ks.length : Int) :: 174 :: [])) := by unfold multiForm; simp
  have n1 := vcode_nat (v := m) (by omega) (by omega)
  have n2 := vcode_nat (v := (ks.length : Int)) (by omega) (by omega)
  rw [e, parse_code (by omega), parse_keys ks h, parse_code (by omega), parse_code (by decide), parseP_nil]
  unfold multiOps
  simp
theorem multi_codes (m : Int) (ks : List (List UInt8)) : (multiOps m ks).map (·.1) = vcode m :: (List.replicate ks.length 33 ++ [vcode (ks.length : Int), 174]) := by
  unfold multiOps
  rw [List.map_cons, List.map_append, List.map_map]
  congr 2
  induction ks with
  | nil => rfl
  | cons k ks ih => rw [List.map_cons, ih]; rfl
theorem multi_datas (m : Int) (ks : List (List UInt8)) : (multiOps m ks).map (·.2) = [] :: (ks ++ [[], []]) := by
  unfold multiOps
  rw [List.map_cons, List.map_append, List.map_map]
  congr 2
  induction ks with
  | nil => rfl
  | cons k ks ih => rw [List.map_cons, ih]; rfl
theorem multiB_form (m : Int) (n : Nat) (h0 : 1 ≤ m) (h1 : m ≤ (n : Int)) (h2 : n ≤ 16) : multiB (vcode m :: (List.replicate n 33 ++ [vcode (n : Int), 174])) = true := by
  have hl : (vcode m :: (List.replicate n (33 : UInt8) ++ [vcode (n : Int), 174])).length = n + 3 := by simp
  have g2 : (vcode m :: (List.replicate n (33 : UInt8) ++ [vcode (n : Int), 174])).getD (n + 2) 0 = 174 := by
    rw [List.getD_cons_succ, List.getD, List.getElem?_append_right (by simp), List.length_replicate, show n + 1 - n = 1 by omega]
    rfl
  have g1 : (vcode m :: (List.replicate n (33 : UInt8) ++ [vcode (n : Int), 174])).getD (n + 1) 0 = vcode (n : Int) := by
    rw [List.getD_cons_succ, List.getD, List.getElem?_append_right (by simp), List.length_replicate, show n - n = 0 by omega]
    rfl
  have g0 : (vcode m :: (List.replicate n (33 : UInt8) ++ [vcode (n : Int), 174])).getD 0 0 = vcode m := rfl
  have gt : ((vcode m :: (List.replicate n (33 : UInt8) ++ [vcode (n : Int), 174])).drop 1).take n = List.replicate n 33 := by
    rw [List.drop_succ_cons, List.drop_zero]
    exact List.take_left' (by simp)
  unfold multiB
  rw [hl, if_neg (by omega), show n + 3 - 1 = n + 2 by omega, show n + 3 - 2 = n + 1 by omega, show n + 3 - 3 = n by omega, g2, g1, g0, gt, small_vcode _ (by omega) (by omega), small_vcode _ (by omega) (by omega), show ((n + 3 : Nat) : Int) - 3 = (n : Int) by omega]
  have ha : (List.replicate n (33 : UInt8)).any (· != 33) = false := by
    rw [List.any_eq_false]
    intro x hx
    rw [List.eq_of_mem_replicate hx]
    decide
  rw [ha]
  simp [h0, h1]

theorem prog_long (B : Nat) (x : Value) (xs : List UInt8) (w : World) (hx : Byt w B x xs) (h : 42 < xs.length) :
    Calls Try.prog 29 #[x] w fun e w' => e = .returned (.tuple #[.int .i64 0, .slice none 0 0, .bool false]) ∧ w = w' := by
  have hl := hx.len
  unfold maxLen at hl
  obtain ⟨A, c, rfl⟩ := hx.form
  have d1 : decide ((xs.length : Int) < 4) = false := decide_eq_false (by omega)
  have d2 : decide ((42 : Int) < (xs.length : Int)) = true := decide_eq_true (by omega)
  clear hx
  go_enter Try.func29, Try.ntmps29
  go_wp2_with fail
  go_ret3
  exact ⟨rfl, rfl⟩

theorem prog_multi (B : Nat) (x : Value) (m : Int) (ks : List (List UInt8)) (w : World) (hx : Byt w B x (multiForm m ks)) (h : ks.any (fun k => k.length != 33) = false) (h1 : 1 ≤ ks.length) :
    Calls Try.prog 29 #[x] w fun e w' => e = .returned (.tuple #[.int .i64 0, .slice none 0 0, .bool false]) ∧ w = w' := by
  have hf := flatK_len h
  have hl : (multiForm m ks).length = 34 * ks.length + 3 := by unfold multiForm; simp [hf]
  by_cases h2 : 2 ≤ ks.length
  · exact prog_long B x _ w hx (by omega)
  · obtain ⟨k, rfl⟩ := List.length_eq_one_iff.1 (show ks.length = 1 by omega)
    have hk : k.length = 33 := by simpa using h
    have e : multiForm m [k] = vcode m :: 33 :: (k ++ [vcode 1, 174]) := by unfold multiForm flatK; simp
    rw [e] at hx
    exact prog_no B x (vcode m) 33 (k ++ [vcode 1, 174]) w hx (by rw [List.length_append, hk]; decide) (by simp) (by simp [hk])

/-- What Kind answers there. -/
def KindM (w : World) (m : Int) (ks : List (List UInt8)) (e : Ending) (w' : World) : Prop :=
  ∃ v M, e = .returned (.tuple #[.int .i64 5, v]) ∧ BagR w' w'.heap.size v M ∧ M.map (·.2) = [b8 m] :: ks ∧ Below w.heap.size w w'

set_option maxRecDepth 100000 in
set_option maxHeartbeats 6400000 in
theorem kind_multi (B : Nat) (x : Value) (m : Int) (ks : List (List UInt8)) (w : World) (hx : Byt w B x (multiForm m ks)) (hk : ks.any (fun k => k.length != 33) = false) (h0 : 1 ≤ m) (h1 : m ≤ (ks.length : Int)) (h2 : ks.length ≤ 16) :
    Calls Try.prog 26 #[x] w (KindM w m ks) := by
  have hf := flatK_len hk
  have hlen : (multiForm m ks).length = 34 * ks.length + 3 := by unfold multiForm; simp [hf]
  have HN := Lib.hid (prog_multi B x m ks w hx hk (by omega))
  have HP := Lib.hid (parse_list B x (multiForm m ks) _ (parse_multi m ks hk h0 h1 h2) w hx (by omega))
  have ncode := vcode_nat (v := m) (by omega) (by omega)
  have hol : (multiOps m ks).length = ks.length + 3 := by unfold multiOps; simp
  obtain ⟨A, c, rfl⟩ := hx.form
  obtain ⟨F, hF⟩ : ∃ F, F = (multiForm m ks).length := ⟨_, rfl⟩
  rw [← hF] at HN HP ⊢
  have HMN := Lib.hid (And.intro h0 (And.intro h1 h2))
  have HNC := Lib.hid ncode
  have HOL := Lib.hid hol
  have HFb : Hid (F ≤ 60000000) := Lib.hid (by omega)
  clear hx hlen hf hF ncode hol hk h0 h1 h2
  go_enter Try.func26, Try.ntmps26
  go_wp2_with fail
  refine HN.out.mono ?_
  rintro e w1 ⟨rfl, rfl⟩
  go_wp2_with fail
  refine HP.out.mono ?_
  rintro e w1 ⟨Av, cv, L, rfl, hL, hops, hb1⟩
  rw [HOL.out] at hops ⊢
  have hro := OpsR.of_at hops
  have hLl : L.length = ks.length + 3 := by rw [← HOL.out, ← hL, List.length_map]
  have hcod := codes_of hL
  rw [multi_codes] at hcod
  have hd : ∀ p ∈ L, Byt w1 w1.heap.size p.at_ p.data := fun p hp => Byt.of_own (hops.2.1 p hp)
  obtain ⟨p0, hp0⟩ : ∃ p, L[0]? = some p := ⟨_, List.getElem?_eq_getElem (by omega)⟩
  have hc0 : p0.code = vcode m := by
    have := congrArg (fun l : List UInt8 => l[0]?) hcod
    rw [List.getElem?_map, hp0] at this
    exact Option.some.inj this
  have hdat : ((L.drop 1).take ks.length).map Piece.data = ks := by
    have h := congrArg (fun l : List (UInt8 × List UInt8) => ((l.map (·.2)).drop 1).take ks.length) hL
    simp only [multi_datas, List.map_map, List.drop_succ_cons, List.drop_zero] at h
    rw [List.take_left' rfl] at h
    rw [List.map_take, List.map_drop]
    exact h
  have hne1 : decide (L.map Piece.code = [118, 169, 20, 136, 172]) = false := decide_eq_false (by rw [hcod]; intro e; have hq := congrArg UInt8.toNat (List.cons.inj e).1; rw [HNC.out] at hq; have hz := HMN.out; have h118 : (118 : UInt8).toNat = 118 := rfl; have h169 : (169 : UInt8).toNat = 169 := rfl; omega)
  have hne2 : decide (L.map Piece.code = [169, 20, 135]) = false := decide_eq_false (by rw [hcod]; intro e; have hq := congrArg UInt8.toNat (List.cons.inj e).1; rw [HNC.out] at hq; have hz := HMN.out; have h118 : (118 : UInt8).toNat = 118 := rfl; have h169 : (169 : UInt8).toNat = 169 := rfl; omega)
  have hm := Byt.made w1 5 [.int .u8 118, .int .u8 169, .int .u8 20, .int .u8 136, .int .u8 172] [118, 169, 20, 136, 172] rfl (by unfold maxLen; simp)
  have hbm : Below w1.heap.size w1 (w1.alloc (.cells #[.int .u8 118, .int .u8 169, .int .u8 20, .int .u8 136, .int .u8 172] 5)) := byt_below _ _ (Nat.le_refl _)
  have hck := coded_any w1.heap.size (w1.heap.size + 1) _ _ L [118, 169, 20, 136, 172] _ (hro.below hbm) hm (by simp) (by simp)
  rw [hne1] at hck
  have HK := Lib.hid hck
  have hco := fun (w9 : World) (h9 : Below w1.heap.size w1 w9) => coded_any w1.heap.size (w9.heap.size + 1) _ _ L [169, 20, 135] _ ((hro.below h9).below (byt_below w9 (.cells #[.int .u8 169, .int .u8 20, .int .u8 135] 5) h9.size)) (Byt.made w9 5 [.int .u8 169, .int .u8 20, .int .u8 135] [169, 20, 135] rfl (by unfold maxLen; simp)) (by have := h9.size; simp; omega) (by simp)
  rw [hne2] at hco
  have HC := Lib.hid hco
  have hmu := fun (w9 : World) (h9 : Below w1.heap.size w1 w9) => multi_any w1.heap.size _ L w9 (hro.below h9) h9.size (by have := HMN.out; omega)
  rw [hcod, multiB_form m ks.length HMN.out.1 HMN.out.2.1 HMN.out.2.2] at hmu
  have HMU := Lib.hid hmu
  have hmp := fun (w9 : World) (h9 : Below w1.heap.size w1 w9) => multiParts_any w1.heap.size ks.length _ L p0 w9 (hro.below h9) (fun p hp => (hd p hp).below h9) h9.size hLl (by have := HMN.out; omega) hp0 (by rw [hc0, small_vcode _ (by have := HMN.out; omega) (by have := HMN.out; omega)]; exact HMN.out.1)
  rw [hc0, small_vcode _ (by have := HMN.out; omega) (by have := HMN.out; omega)] at hmp
  have HMP := Lib.hid hmp
  have HDAT := Lib.hid hdat
  have HB1 := Lib.hid hb1
  have HB2 := Lib.hid hbm
  clear hmp hmu hco hck hcod hm hbm hro hops hL hb1 HN HP hdat hne1 hne2 hd hp0 hc0 hLl
  obtain ⟨Q, hQ⟩ : ∃ Q, Q = ks.length := ⟨_, rfl⟩
  rw [← hQ] at HK HC HMU HMP HDAT ⊢
  clear hQ
  go_wp2_with fail
  refine HK.out.mono ?_
  rintro e w9 ⟨rfl, hb9⟩
  have HB9 := Lib.hid (HB2.out.trans (hb9.mono (by simp)))
  clear hb9
  go_wp2_with fail
  refine (HC.out w9 HB9.out).mono ?_
  rintro e w2 ⟨rfl, hb2⟩
  have HB10 := Lib.hid ((HB9.out.alloc HB9.out.size (.cells #[.int .u8 169, .int .u8 20, .int .u8 135] 5)).trans (hb2.mono (by have := HB9.out.size; simp; omega)))
  clear hb2
  go_wp2_with fail
  refine (HMU.out w2 HB10.out).mono ?_
  rintro e w3 ⟨rfl, hb3⟩
  have HB11 := Lib.hid (HB10.out.trans (hb3.mono HB10.out.size))
  clear hb3
  go_wp2_with fail
  refine (HMP.out w3 HB11.out).mono ?_
  rintro e w4 ⟨v4, a0, rfl, bag4, hb4⟩
  have HB12 := Lib.hid (HB1.out.trans ((HB11.out.trans (hb4.mono HB11.out.size)).mono HB1.out.size))
  have hpm : (partsL a0 m ((L.drop 1).take Q)).map (·.2) = [b8 m] :: ks := by
    unfold partsL
    rw [List.map_cons, List.map_map]
    exact congrArg (List.cons [b8 m]) HDAT.out
  obtain ⟨P, hP⟩ : ∃ P, P = partsL a0 m ((L.drop 1).take Q) := ⟨_, rfl⟩
  rw [← hP] at bag4 hpm
  have BAG4 := Lib.hid bag4
  have HPM := Lib.hid hpm
  obtain ⟨A4, c4, rfl⟩ := bag4.form
  clear hP hpm
  clear bag4 hb4
  go_wp2_with fail
  go_ret2
  exact ⟨_, P, rfl, BAG4.out, HPM.out, HB12.out⟩
end Go.Proofs.Ytadgaeokiolmmaa
