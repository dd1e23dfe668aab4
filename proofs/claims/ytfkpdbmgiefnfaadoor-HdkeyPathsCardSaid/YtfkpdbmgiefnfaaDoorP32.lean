/-
  Texts joined: HkRparse. Conditions: those of each.
-/
import Derived.Test.YtfkpdbmgiefnfaaDoorP30
import Derived.Test.YtfkpdbmgiefnfaaDoorP31
/-
  The reference's ParsePath, walked. Conditions: a text within the reach.
-/
namespace Go.Proofs.YtfkpdbmgiefnfaaDoor.Hk
open Go.RowKit

theorem ints_info : (Tryd.prog.info? 27).map (fun i => (i.zero, i.size, i.bytes)) = some (some (.int .u32 0), 1, 4) := by kernel_rfl
/-- A number as the reference counts it: what lies above 31 bits stays there. -/
def satN (l : List UInt8) : Nat := l.foldl (fun n c => if n < 2147483648 then n * 10 + (c.toNat - 48) else n) 0
theorem satN_snoc (l : List UInt8) (c : UInt8) : satN (l ++ [c]) = if satN l < 2147483648 then satN l * 10 + (c.toNat - 48) else satN l := by unfold satN; rw [List.foldl_append]; rfl
theorem satN_says (l : List UInt8) (hd : l.all dB = true) : (satN l < 2147483648 ↔ valB l < 2147483648) ∧ (valB l < 2147483648 → satN l = valB l) ∧ satN l < 21474836490 := by
  obtain ⟨r, hr⟩ : ∃ r, r = l.reverse := ⟨_, rfl⟩
  have hp : l = r.reverse := by rw [hr, List.reverse_reverse]
  rw [hp] at hd ⊢
  clear hp hr l
  induction r with
  | nil => exact ⟨Iff.rfl, fun _ => rfl, by decide⟩
  | cons x r ih =>
    rw [List.reverse_cons] at hd ⊢
    rw [List.all_append, Bool.and_eq_true] at hd
    obtain ⟨h1, h2, h3⟩ := ih hd.1
    have hx : dB x = true := by have := hd.2; simpa using this
    unfold dB at hx
    simp only [Bool.and_eq_true, decide_eq_true_eq] at hx
    rw [satN_snoc, valB_snoc]
    by_cases h : satN r.reverse < 2147483648
    · rw [if_pos h]
      have hv := h1.1 h
      rw [h2 hv]
      exact ⟨Iff.rfl, fun _ => rfl, by omega⟩
    · rw [if_neg h]
      have hv : ¬ valB r.reverse < 2147483648 := fun hc => h (h1.2 hc)
      exact ⟨⟨fun hc => absurd hc h, fun hc => absurd hc (by omega)⟩, fun hc => absurd hc (by omega), h3⟩

/-- What the reference holds of the parts that are done. -/
structure Done (dn : List (List UInt8)) (g : Bool) (xs : List Int) : Prop where
  ok : ∀ x ∈ dn, stepE x ≠ 3
  great : g = true ↔ ∃ x ∈ dn, stepE x ≠ 0
  len : xs.length = dn.length
  all : g = false → xs = dn.map fun x => (stepN x : Int)
theorem Done.nil : Done [] false [] := ⟨by simp, by simp, rfl, fun _ => rfl⟩
theorem Done.next {dn : List (List UInt8)} {g : Bool} {xs : List Int} (h : Done dn g xs) {p : List UInt8} {z g' : Bool} {x : Int} (hp : stepE p = if z then 2 else 0) (hg : g' = (g || z)) (hx : z = false → x = (stepN p : Int)) : Done (dn ++ [p]) g' (xs ++ [x]) := by
  subst hg
  refine ⟨fun y hy => ?_, ⟨fun hz => ?_, fun hz => ?_⟩, by simp [h.len], fun hz => ?_⟩
  · rcases List.mem_append.1 hy with hy | hy
    · exact h.ok y hy
    · simp at hy
      subst hy
      rw [hp]
      cases z <;> decide
  · rw [Bool.or_eq_true] at hz
    rcases hz with hz | hz
    · obtain ⟨y, hy, hc⟩ := h.great.1 hz
      exact ⟨y, by simp [hy], hc⟩
    · exact ⟨p, by simp, by rw [hp, hz]; decide⟩
  · obtain ⟨y, hy, hc⟩ := hz
    rw [Bool.or_eq_true]
    rcases List.mem_append.1 hy with hy | hy
    · exact Or.inl (h.great.2 ⟨y, hy, hc⟩)
    · simp at hy
      subst hy
      right
      cases hz : z with
      | true => rfl
      | false => rw [hp, hz] at hc; exact absurd rfl hc
  · rw [Bool.or_eq_false_iff] at hz
    rw [h.all hz.1, hx hz.2]
    simp
theorem Done.out {dn : List (List UInt8)} {g : Bool} {xs : List Int} (h : Done dn g xs) : outR dn = if g = true ∨ 255 < xs.length then ([], 2) else (xs, 0) := by
  have key : ((∃ x ∈ dn, stepE x ≠ 0) ∨ 255 < dn.length) ↔ (g = true ∨ 255 < xs.length) := by rw [h.great, h.len]
  unfold outR
  rw [if_neg (by rintro ⟨x, hx, hc⟩; exact h.ok x hx hc)]
  by_cases hc : g = true ∨ 255 < xs.length
  · rw [if_pos hc, if_pos (key.2 hc)]
  · rw [if_neg hc, if_neg (fun h2 => hc (key.1 h2)), h.all (by cases hg : g with | false => rfl | true => exact absurd (Or.inl hg) hc)]
theorem digOk_len (D : List UInt8) : (D.length = 0 → digOk D = false) ∧ (D.length = 1 → digOk D = true) ∧ (2 ≤ D.length → ∀ c, D[0]? = some c → digOk D = !(c == 48)) := by
  refine ⟨fun h => ?_, fun h => ?_, fun h c hc => ?_⟩
  · rw [List.eq_nil_of_length_eq_zero h]; rfl
  · match D, h with
    | [c], _ =>
      by_cases h : c = 48
      · subst h; rfl
      · simp [digOk, h]
  · match D, h, hc with
    | a :: b :: l, _, hc =>
      simp at hc
      subst hc
      simp [digOk, bne]
theorem drop_split (L : List UInt8) (a k a1 : Nat) (h : a1 = a + k) : L.drop a = (L.drop a).take k ++ L.drop a1 := by
  rw [h, ← List.drop_drop, List.take_append_drop]
theorem drop_at {L : List UInt8} {a : Nat} {c : UInt8} (h : L[a]? = some c) : L.drop a = c :: L.drop (a + 1) := by
  obtain ⟨hl, he⟩ := List.getElem?_eq_some_iff.1 h
  rw [← he]
  exact (List.getElem_cons_drop hl).symm

theorem parse_bad {L : List UInt8} {dn : List (List UInt8)} {a : Nat} (h0 : parseP L = outR (partsOf (trimM L))) (hp : partsOf (trimM L) = dn ++ partsOf (L.drop a)) (h : ∃ p ps, partsOf (L.drop a) = p :: ps ∧ stepE p = 3) : parseP L = ([], 3) := by
  obtain ⟨p, ps, h1, h2⟩ := h
  rw [h0, hp, h1]
  exact outR_bad (by simp) h2
theorem parse_done {L : List UInt8} {dn : List (List UInt8)} {a : Nat} {q : List UInt8} {g : Bool} {xs : List Int} (h0 : parseP L = outR (partsOf (trimM L))) (hp : partsOf (trimM L) = dn ++ partsOf (L.drop a)) (hq : partsOf (L.drop a) = [q]) (hd : Done (dn ++ [q]) g xs) : parseP L = if g = true ∨ 255 < xs.length then ([], 2) else (xs, 0) := by
  rw [h0, hp, hq, hd.out]

set_option maxRecDepth 100000 in
set_option maxHeartbeats 25600000 in
theorem rparse_any (s : ByteArray) (w : World) (hs : s.size ≤ 100000) :
    Calls Tryd.prog 14 #[.string s] w fun e w' => ∃ v, e = .returned (.tuple #[v, .int .i64 (parseP s.data.toList).2]) ∧ w'.ownsRow w.heap.size 27 1 v (parseP s.data.toList).1.length ((parseP s.data.toList).1.map (Value.int .u32)) ∧ Below w.heap.size w w' := by
  obtain ⟨L, hL⟩ : ∃ L, L = s.data.toList := ⟨_, rfl⟩
  have hLl : L.length = s.size := by rw [hL]; exact blen s
  rw [← hL]
  have HL := Lib.hid hL
  have HLL := Lib.hid hLl
  go_enter Tryd.func14, Tryd.ntmps14
  by_cases hm : s = ⟨#[109]⟩
  · have hl : L = [109] := by rw [hL, hm]
    have HR := Lib.hid (show parseP L = ([], 0) by unfold parseP; rw [if_pos hl])
    clear hL hLl hl
    subst hm
    go_wp2_with fail
    go_ret2
    exact ⟨_, by rw [HR.out]; rfl, by rw [HR.out]; exact World.ownsRow_nil _ _ _ _, Below.refl _ _⟩
  · have hm2 : L ≠ [109] := by
      intro h
      rw [hL] at h
      exact hm (ba_of h)
    have HR := Lib.hid (show parseP L = outR (partsOf (trimM L)) by unfold parseP; rw [if_neg hm2])
    have hms : (s.toList == [109]) = false := by
      rw [ByteArray.toList_eq]
      rw [hL] at hm2
      simpa using hm2
    go_upto_region 4 with fail
    obtain ⟨t, ht⟩ : ∃ t, t = Lib.hasPrefix L [109, 47] := ⟨_, rfl⟩
    obtain ⟨R4, hR4⟩ : ∃ R : Exit → Act → World → Prop, R = fun e a W => e = .normal ∧ W = w ∧ ∃ b : Bool, b = t ∧ ∃ (g14 g15 g16 g17 g18 g19 g20 g21 g22 g23 g24 g25 : Value), a = ⟨List.toArray (.string s :: undef :: .slice none 0 0 :: .int .i64 0 :: .int .i64 0 :: undef :: undef :: undef :: undef :: undef :: undef :: undef :: .string s :: .bool false :: g14 :: g15 :: g16 :: g17 :: g18 :: g19 :: g20 :: g21 :: g22 :: g23 :: g24 :: g25 :: .bool b :: undef :: undef :: undef :: undef :: undef :: undef :: undef :: undef :: undef :: undef :: undef :: undef :: undef :: undef :: undef :: undef :: undef :: undef :: undef :: undef :: undef :: undef :: undef :: undef :: undef :: undef :: undef :: undef :: undef :: undef :: undef :: undef :: undef :: undef :: undef :: undef :: undef :: undef :: undef :: undef :: undef :: undef :: undef :: undef :: undef :: undef :: undef :: undef :: undef :: undef :: undef :: undef :: undef :: undef :: undef :: undef :: undef :: undef :: undef :: undef :: undef :: undef :: undef :: undef :: undef :: undef :: undef :: undef :: undef :: undef :: undef :: undef :: undef :: undef :: undef :: undef :: undef :: undef :: undef :: undef :: undef :: undef :: undef :: undef :: undef :: undef :: undef :: undef :: undef :: undef :: undef :: undef :: undef :: undef :: undef :: undef :: undef :: []), []⟩ := ⟨_, rfl⟩
    refine wp_mono (Q := R4) ?_ ?_
    · by_cases h1 : 1 < s.size
      · have g1 : decide ((1 : Int) < (s.size : Int)) = true := decide_eq_true (by omega)
        have h00 : 0 < s.size := Nat.lt_trans Nat.zero_lt_one h1
        have q0 : L[0]? = some (s[0]'h00) := by rw [hL]; exact List.getElem?_eq_getElem (by rw [blen]; exact h00)
        have q1 : L[1]? = some (s[1]'h1) := by rw [hL]; exact List.getElem?_eq_getElem (by rw [blen]; exact h1)
        obtain ⟨c0, hc0⟩ : ∃ c, c = s[0]'h00 := ⟨_, rfl⟩
        obtain ⟨c1, hc1⟩ : ∃ c, c = s[1]'h1 := ⟨_, rfl⟩
        rw [← hc0] at q0
        rw [← hc1] at q1
        have hb : t = ((c0 == 109) && (c1 == 47)) := by
          rw [ht]
          unfold Lib.hasPrefix
          match L, q0, q1 with
          | a :: b :: l, q0, q1 =>
            simp at q0 q1
            subst q0 q1
            simp [List.isPrefixOf, Bool.beq_comm]
        have HB := Lib.hid hb
        have x0 : (((s[0]'h00).toNat : Int) == 109) = (c0 == 109) := by rw [← hc0, Bool.eq_iff_iff]; simp [← UInt8.toNat_inj]; omega
        have x1 : (((s[1]'h1).toNat : Int) == 47) = (c1 == 47) := by rw [← hc1, Bool.eq_iff_iff]; simp [← UInt8.toNat_inj]; omega
        clear hb ht q0 q1 hc0 hc1 hL hLl HL HLL hm hm2 HR
        cases hd0 : (c0 == 109) with
        | false =>
          rw [hd0] at x0 HB
          go_wp2_with fail
          rw [hR4]
          exact ⟨rfl, rfl, _, by rw [HB.out]; rfl, _, _, _, _, _, _, _, _, _, _, _, _, rfl⟩
        | true =>
          rw [hd0] at x0 HB
          cases hd1 : (c1 == 47) with
          | false =>
            rw [hd1] at x1 HB
            go_wp2_with fail
            rw [hR4]
            exact ⟨rfl, rfl, _, by rw [HB.out]; rfl, _, _, _, _, _, _, _, _, _, _, _, _, rfl⟩
          | true =>
            rw [hd1] at x1 HB
            go_wp2_with fail
            rw [hR4]
            exact ⟨rfl, rfl, _, by rw [HB.out]; rfl, _, _, _, _, _, _, _, _, _, _, _, _, rfl⟩
      · have g1 : decide ((1 : Int) < (s.size : Int)) = false := decide_eq_false (by omega)
        have hb : t = false := by
          rw [ht]
          unfold Lib.hasPrefix
          match L, hLl with
          | [], _ => rfl
          | [a], _ => simp [List.isPrefixOf]
          | a :: b :: l, hl => simp at hl; omega
        have HB := Lib.hid hb
        clear hb ht hL hLl HL HLL hm hm2 HR
        go_wp2_with fail
        rw [hR4]
        exact ⟨rfl, rfl, _, by rw [HB.out], _, _, _, _, _, _, _, _, _, _, _, _, rfl⟩
    · rintro e a W h
      rw [hR4] at h
      obtain ⟨rfl, rfl, b, hb, g14, g15, g16, g17, g18, g19, g20, g21, g22, g23, g24, g25, rfl⟩ := h
      clear hR4
      rw [← hb] at ht
      obtain ⟨a0, ha0, hat, hi0⟩ : ∃ a0 : Nat, (a0 : Int) = (if b then 2 else 0) ∧ trimM L = L.drop a0 ∧ a0 ≤ s.size := by
        cases hb : b with
        | false => exact ⟨0, rfl, by unfold trimM Lib.trimPrefix; rw [← ht, hb]; rfl, Nat.zero_le _⟩
        | true =>
          refine ⟨2, rfl, by unfold trimM Lib.trimPrefix; rw [← ht, hb]; rfl, ?_⟩
          rw [hb] at ht
          unfold Lib.hasPrefix at ht
          have := (List.isPrefixOf_iff_prefix.1 ht.symm).length_le
          rw [hLl] at this
          exact this
      have HAT := Lib.hid hat
      have HB := Lib.hid hb
      clear hat hm hm2 hms
      cases b
      · obtain rfl : a0 = 0 := by simp at ha0; omega
        clear hL hLl ht hb
        go_wp2_with fail
        go_loopw [4, 5, 6] (fun v4 v5 v6 wr => ∃ (a : Nat) (g : Bool) (dn : List (List UInt8)) (xs : List Int), a ≤ s.size ∧ v4 = .int .i64 (a : Int) ∧ v6 = .bool g ∧ Hid (partsOf (trimM L) = dn ++ partsOf (L.drop a)) ∧ Hid (Done dn g xs) ∧ xs.length ≤ a ∧ wr.ownsRow W.heap.size 27 1 v5 xs.length (xs.map (Value.int .u32)) ∧ Below W.heap.size W wr) (fun v4 _ _ _ => s.size - (intOf v4).toNat)
        case atStart => exact ⟨0, false, [], [], hi0, rfl, rfl, Lib.hid (by rw [HAT.out]; rfl), Lib.hid Done.nil, Nat.zero_le _, World.ownsRow_nil _ _ _ _, Below.refl _ _⟩
        case round =>
          obtain ⟨a, g, dn, xs, ha, rfl, rfl, HP, HDN, hxl, hown, hbel⟩ := hrel
          obtain ⟨A5, c5, rfl⟩ := own_form hown
          have HOW := Lib.hid hown
          have HBEL := Lib.hid hbel
          clear hown hbel
          go_wp2_with fail
          obtain ⟨R8, hR8⟩ : ∃ R : Exit → Act → World → Prop, R = fun e a' W' => e = .exit 2 ∧ W' = wr ∧ ∃ k a1 : Nat, a1 = a + k ∧ a1 ≤ s.size ∧ Hid (((L.drop a).take k).all dB = true) ∧ Hid (∀ c, L[a1]? = some c → dB c = false) ∧ ∃ (g28 g29 g30 g31 g32 g33 g34 g35 g36 g37 g38 g39 g40 g41 g42 g43 g44 g45 g46 g47 g48 g49 g50 g51 g52 g53 g54 g55 g56 g57 : Value), a' = ⟨List.toArray (.string s :: undef :: u2 :: u3 :: .int .i64 (a1 : Int) :: .slice A5 xs.length c5 :: .bool g :: .int .u64 (satN ((L.drop a).take k) : Nat) :: .int .i64 (k : Int) :: .int .i64 (a : Int) :: u10 :: u11 :: .string s :: .bool false :: g14 :: g15 :: g16 :: g17 :: g18 :: g19 :: g20 :: g21 :: g22 :: g23 :: g24 :: g25 :: .bool false :: .int .i64 (a : Int) :: g28 :: g29 :: g30 :: g31 :: g32 :: g33 :: g34 :: g35 :: g36 :: g37 :: g38 :: g39 :: g40 :: g41 :: g42 :: g43 :: g44 :: g45 :: g46 :: g47 :: g48 :: g49 :: g50 :: g51 :: g52 :: g53 :: g54 :: g55 :: g56 :: g57 :: u58 :: u59 :: u60 :: u61 :: u62 :: u63 :: u64 :: u65 :: u66 :: u67 :: u68 :: u69 :: u70 :: u71 :: u72 :: u73 :: u74 :: u75 :: u76 :: u77 :: u78 :: u79 :: u80 :: u81 :: u82 :: u83 :: u84 :: u85 :: u86 :: u87 :: u88 :: u89 :: u90 :: u91 :: u92 :: u93 :: u94 :: u95 :: u96 :: u97 :: u98 :: u99 :: u100 :: u101 :: u102 :: u103 :: u104 :: u105 :: u106 :: u107 :: u108 :: u109 :: u110 :: u111 :: u112 :: u113 :: u114 :: u115 :: u116 :: undef :: undef :: undef :: undef :: undef :: undef :: undef :: []), []⟩ := ⟨_, rfl⟩
          refine wp_mono (Q := R8) ?_ ?_
          · have HR8 := Lib.hid hR8
            clear hR8
            go_loopw [4, 7, 8] (fun v4 v7 v8 wx => ∃ k : Nat, a + k ≤ s.size ∧ v4 = .int .i64 ((a + k : Nat) : Int) ∧ v8 = .int .i64 (k : Int) ∧ v7 = .int .u64 (satN ((L.drop a).take k) : Nat) ∧ Hid (((L.drop a).take k).all dB = true) ∧ wx = wr) (fun v4 _ _ _ => s.size - (intOf v4).toNat)
            case atStart => exact ⟨0, ha, rfl, rfl, rfl, Lib.hid rfl, rfl⟩
            case round =>
              obtain ⟨k, hk, rfl, rfl, rfl, HD, rfl⟩ := hrel
              obtain ⟨a1, ha1⟩ : ∃ a1 : Nat, a1 = a + k := ⟨_, rfl⟩
              rw [← ha1] at hk ⊢
              by_cases hlt : a1 < s.size
              · have hat : L[a1]? = some (s[a1]'hlt) := by rw [HL.out]; exact List.getElem?_eq_getElem (by rw [blen]; exact hlt)
                have hsn : (L.drop a).take (k + 1) = (L.drop a).take k ++ [s[a1]'hlt] := by rw [List.take_add_one, List.getElem?_drop, ← ha1, hat]; rfl
                have HAT1 := Lib.hid hat
                have HSN := Lib.hid hsn
                clear hat hsn
                have HA1 := Lib.hid ha1
                have hk9 : k < 100000 := by omega
                clear ha1
                by_cases h48 : ((s[a1]'hlt).toNat : Int) < 48
                · go_wp2_with fail
                  rw [HR8.out]
                  exact ⟨rfl, rfl, k, a1, HA1.out, by omega, HD, Lib.hid (fun c hc => by rw [HAT1.out] at hc; obtain rfl := Option.some.inj hc; unfold dB; simp; omega), _, _, _, _, _, _, _, _, _, _, _, _, _, _, _, _, _, _, _, _, _, _, _, _, _, _, _, _, _, _, rfl⟩
                by_cases h57 : 57 < ((s[a1]'hlt).toNat : Int)
                · go_wp2_with fail
                  rw [HR8.out]
                  exact ⟨rfl, rfl, k, a1, HA1.out, by omega, HD, Lib.hid (fun c hc => by rw [HAT1.out] at hc; obtain rfl := Option.some.inj hc; unfold dB; simp; omega), _, _, _, _, _, _, _, _, _, _, _, _, _, _, _, _, _, _, _, _, _, _, _, _, _, _, _, _, _, _, rfl⟩
                have hdc : dB (s[a1]'hlt) = true := by unfold dB; simp; omega
                have HD2 := Lib.hid (show ((L.drop a).take (k + 1)).all dB = true by rw [HSN.out, List.all_append, HD.out]; simp [hdc])
                have hss := (satN_says _ HD.out).2.2
                have hm : satN ((L.drop a).take (k + 1)) = if satN ((L.drop a).take k) < 2147483648 then satN ((L.drop a).take k) * 10 + ((s[a1]'hlt).toNat - 48) else satN ((L.drop a).take k) := by rw [HSN.out, satN_snoc]
                obtain ⟨n, hn⟩ : ∃ n, n = satN ((L.drop a).take k) := ⟨_, rfl⟩
                obtain ⟨m, hm0⟩ : ∃ m, m = satN ((L.drop a).take (k + 1)) := ⟨_, rfl⟩
                rw [← hn] at hm hss ⊢
                rw [← hm0] at hm
                have HM0 := Lib.hid hm0
                obtain ⟨d, hd⟩ : ∃ d : Nat, d = (s[a1]'hlt).toNat - 48 := ⟨_, rfl⟩
                rw [← hd] at hm
                have e1 : ((s[a1]'hlt).toNat : Int) - 48 = (d : Int) := by omega
                have hd9 : d ≤ 9 := by omega
                have e4 : IntKind.u8.wrap (d : Int) = (d : Int) := by rw [IntKind.wrap_u8]; omega
                have e5 : IntKind.u64.wrap (d : Int) = (d : Int) := by rw [IntKind.wrap_u64]; omega
                have i1 : (48 : Int) ≤ ((s[a1]'hlt).toNat : Int) := by omega
                have i2 : ((s[a1]'hlt).toNat : Int) ≤ 57 := by omega
                clear hn hm0 hd hdc
                by_cases hb : n < 2147483648
                · rw [if_pos hb] at hm
                  have e8 : IntKind.u64.wrap (10 * (n : Int)) = 10 * (n : Int) := by rw [IntKind.wrap_u64]; omega
                  have e9 : IntKind.u64.wrap (10 * (n : Int) + (d : Int)) = (m : Int) := by rw [IntKind.wrap_u64]; omega
                  have e10 : 10 * (n : Int) + (d : Int) = (m : Int) := by omega
                  have e11 : decide ((n : Int) < 2147483648) = true := decide_eq_true (by omega)
                  clear hm hss
                  go_wp2_with fail
                  go_roundw
                  case rel => exact ⟨k + 1, by have := HA1.out; omega, by have := HA1.out; go_num, by have := HA1.out; go_num, by rw [← HM0.out], HD2, trivial⟩
                  case measure => simp [intOf]; omega
                · rw [if_neg hb] at hm
                  have e11 : decide ((n : Int) < 2147483648) = false := decide_eq_false (by omega)
                  have HM := Lib.hid hm
                  clear hm hss
                  go_wp2_with fail
                  go_roundw
                  case rel => exact ⟨k + 1, by have := HA1.out; omega, by have := HA1.out; go_num, by have := HA1.out; go_num, by rw [← HM0.out, HM.out], HD2, trivial⟩
                  case measure => simp [intOf]; omega
              · have HA1 := Lib.hid ha1
                clear ha1
                go_wp2_with fail
                rw [HR8.out]
                exact ⟨rfl, rfl, k, a1, HA1.out, by omega, HD, Lib.hid (fun c hc => absurd hc (by rw [List.getElem?_eq_none (by rw [HLL.out]; omega)]; simp)), _, _, _, _, _, _, _, _, _, _, _, _, _, _, _, _, _, _, _, _, _, _, _, _, _, _, _, _, _, _, rfl⟩
          · rintro e a' W' h
            rw [hR8] at h
            obtain ⟨rfl, rfl, k, a1, ha1, hl1, HD, HT, g28, g29, g30, g31, g32, g33, g34, g35, g36, g37, g38, g39, g40, g41, g42, g43, g44, g45, g46, g47, g48, g49, g50, g51, g52, g53, g54, g55, g56, g57, rfl⟩ := h
            clear hR8 R8
            obtain ⟨D, hDd⟩ : ∃ D, D = (L.drop a).take k := ⟨_, rfl⟩
            rw [← hDd] at HD ⊢
            have hDlen : D.length = k := by rw [hDd, List.length_take, List.length_drop, HLL.out]; omega
            have hsp : L.drop a = D ++ L.drop a1 := by rw [hDd]; exact drop_split L a k a1 ha1
            have hD0 : 0 < k → D[0]? = L[a]? := fun h => by rw [hDd, List.getElem?_take, if_pos h, List.getElem?_drop]; rfl
            have HSP := Lib.hid hsp
            have HD0 := Lib.hid hD0
            have HDL := Lib.hid hDlen
            have HA1 := Lib.hid ha1
            have hk9 : k ≤ 100000 := by omega
            obtain ⟨n, hn⟩ : ∃ n, n = satN D := ⟨_, rfl⟩
            rw [← hn]
            have HN := Lib.hid hn
            obtain ⟨ok, hok⟩ : ∃ ok, ok = digOk D := ⟨_, rfl⟩
            have HOKD := Lib.hid hok
            have HKN := Lib.hid (digOk_len D)
            rw [hDlen] at HKN
            clear hsp hD0 hDlen ha1 hn hok hDd
            go_upto_region 16 with fail
            obtain ⟨R16, hR16⟩ : ∃ R : Exit → Act → World → Prop, R = fun e a' W2 => e = .normal ∧ W2 = W' ∧ ∃ nb : Bool, nb = !ok ∧ ∃ (g58 g59 g60 g61 g62 g63 g64 g65 g66 g67 g68 : Value), a' = ⟨List.toArray (.string s :: undef :: u2 :: u3 :: .int .i64 (a1 : Int) :: .slice A5 xs.length c5 :: .bool g :: .int .u64 (n : Int) :: .int .i64 (k : Int) :: .int .i64 (a : Int) :: u10 :: u11 :: .string s :: .bool false :: g14 :: g15 :: g16 :: g17 :: g18 :: g19 :: g20 :: g21 :: g22 :: g23 :: g24 :: g25 :: .bool false :: .int .i64 (a : Int) :: g28 :: g29 :: g30 :: g31 :: g32 :: g33 :: g34 :: g35 :: g36 :: g37 :: g38 :: g39 :: g40 :: g41 :: g42 :: g43 :: g44 :: g45 :: g46 :: g47 :: g48 :: g49 :: g50 :: g51 :: g52 :: g53 :: g54 :: g55 :: g56 :: g57 :: g58 :: g59 :: g60 :: g61 :: g62 :: g63 :: g64 :: g65 :: g66 :: g67 :: g68 :: .bool nb :: u70 :: u71 :: u72 :: u73 :: u74 :: u75 :: u76 :: u77 :: u78 :: u79 :: u80 :: u81 :: u82 :: u83 :: u84 :: u85 :: u86 :: u87 :: u88 :: u89 :: u90 :: u91 :: u92 :: u93 :: u94 :: u95 :: u96 :: u97 :: u98 :: u99 :: u100 :: u101 :: u102 :: u103 :: u104 :: u105 :: u106 :: u107 :: u108 :: u109 :: u110 :: u111 :: u112 :: u113 :: u114 :: u115 :: u116 :: undef :: undef :: undef :: undef :: undef :: undef :: undef :: []), []⟩ := ⟨_, rfl⟩
            have HR16 := Lib.hid hR16
            clear hR16
            refine wp_mono (Q := R16) ?_ ?_
            · by_cases hk0 : k = 0
              · have kz : ((k : Int) == 0) = true := by rw [hk0]; rfl
                have HOK := Lib.hid (show ok = false by rw [HOKD.out]; exact HKN.out.1 hk0)
                clear hk0
                go_wp2_with fail
                rw [HR16.out]
                exact ⟨rfl, rfl, _, by rw [HOK.out]; rfl, _, _, _, _, _, _, _, _, _, _, _, rfl⟩
              · have kz : ((k : Int) == 0) = false := by simp; omega
                by_cases hk1 : k = 1
                · have g1 : decide ((1 : Int) < (k : Int)) = false := decide_eq_false (by omega)
                  have HOK := Lib.hid (show ok = true by rw [HOKD.out]; exact HKN.out.2.1 hk1)
                  clear hk0 hk1
                  go_wp2_with fail
                  rw [HR16.out]
                  exact ⟨rfl, rfl, _, by rw [HOK.out]; rfl, _, _, _, _, _, _, _, _, _, _, _, rfl⟩
                · have g1 : decide ((1 : Int) < (k : Int)) = true := decide_eq_true (by omega)
                  have hax : a < s.size := by have := HA1.out; omega
                  have hat : L[a]? = some (s[a]'hax) := by rw [HL.out]; exact List.getElem?_eq_getElem (by rw [blen]; exact hax)
                  obtain ⟨c, hc⟩ : ∃ c, c = s[a]'hax := ⟨_, rfl⟩
                  rw [← hc] at hat
                  have HOK := Lib.hid (show ok = !(c == 48) by rw [HOKD.out]; exact HKN.out.2.2 (by omega) c ((HD0.out (by omega)).trans hat))
                  have x0 : (((s[a]'hax).toNat : Int) == 48) = (c == 48) := by rw [← hc, Bool.eq_iff_iff]; simp [← UInt8.toNat_inj]; omega
                  clear hat hc hk0 hk1
                  cases hc48 : (c == 48) with
                  | false =>
                    rw [hc48] at x0 HOK
                    clear hc48
                    go_wp2_with fail
                    rw [HR16.out]
                    exact ⟨rfl, rfl, _, by rw [HOK.out]; rfl, _, _, _, _, _, _, _, _, _, _, _, rfl⟩
                  | true =>
                    rw [hc48] at x0 HOK
                    clear hc48
                    go_wp2_with fail
                    rw [HR16.out]
                    exact ⟨rfl, rfl, _, by rw [HOK.out]; rfl, _, _, _, _, _, _, _, _, _, _, _, rfl⟩
            · rintro e a' W2 h
              rw [HR16.out] at h
              obtain ⟨rfl, rfl, nb, hnb, g58, g59, g60, g61, g62, g63, g64, g65, g66, g67, g68, rfl⟩ := h
              clear HR16
              cases ok with
              | false =>
                obtain rfl : nb = true := by rw [hnb]; rfl
                clear hnb
                have BAD := Lib.hid (parse_bad HR.out HP.out (by rw [HSP.out]; exact scan_bad HD.out (fun c r hcr => HT.out c (by rw [← List.head?_drop, hcr]; rfl)) HOKD.out.symm))
                go_wp2_with fail
                go_ret2
                exact ⟨_, by rw [BAD.out]; rfl, by rw [BAD.out]; exact World.ownsRow_nil _ _ _ _, HBEL.out⟩
              | true =>
                obtain rfl : nb = false := by rw [hnb]; rfl
                clear hnb
                go_upto_region 18 with fail
                obtain ⟨R18, hR18⟩ : ∃ R : Exit → Act → World → Prop, R = fun e a' W3 => e = .normal ∧ W3 = W2 ∧ ∃ hd : Bool, Hid (hd = true → ∃ c, L[a1]? = some c ∧ isMark c = true) ∧ Hid (hd = false → ∀ c, L[a1]? = some c → isMark c = false) ∧ ∃ (g70 g71 g72 g73 g74 g75 g76 g77 g78 g79 g80 g81 g82 g83 g84 g85 g86 g87 g88 g89 g90 g91 : Value), a' = ⟨List.toArray (.string s :: undef :: u2 :: u3 :: .int .i64 (a1 : Int) :: .slice A5 xs.length c5 :: .bool g :: .int .u64 (n : Int) :: .int .i64 (k : Int) :: .int .i64 (a : Int) :: .bool hd :: u11 :: .string s :: .bool false :: g14 :: g15 :: g16 :: g17 :: g18 :: g19 :: g20 :: g21 :: g22 :: g23 :: g24 :: g25 :: .bool false :: .int .i64 (a : Int) :: g28 :: g29 :: g30 :: g31 :: g32 :: g33 :: g34 :: g35 :: g36 :: g37 :: g38 :: g39 :: g40 :: g41 :: g42 :: g43 :: g44 :: g45 :: g46 :: g47 :: g48 :: g49 :: g50 :: g51 :: g52 :: g53 :: g54 :: g55 :: g56 :: g57 :: g58 :: g59 :: g60 :: g61 :: g62 :: g63 :: g64 :: g65 :: g66 :: g67 :: g68 :: .bool false :: g70 :: g71 :: g72 :: g73 :: g74 :: g75 :: g76 :: g77 :: g78 :: g79 :: g80 :: g81 :: g82 :: g83 :: g84 :: g85 :: g86 :: g87 :: g88 :: g89 :: g90 :: g91 :: u92 :: u93 :: u94 :: u95 :: u96 :: u97 :: u98 :: u99 :: u100 :: u101 :: u102 :: u103 :: u104 :: u105 :: u106 :: u107 :: u108 :: u109 :: u110 :: u111 :: u112 :: u113 :: u114 :: u115 :: u116 :: undef :: undef :: undef :: undef :: undef :: undef :: undef :: []), []⟩ := ⟨_, rfl⟩
                have HR18 := Lib.hid hR18
                clear hR18
                refine wp_mono (Q := R18) ?_ ?_
                · by_cases hlt : a1 < s.size
                  · have hat : L[a1]? = some (s[a1]'hlt) := by rw [HL.out]; exact List.getElem?_eq_getElem (by rw [blen]; exact hlt)
                    obtain ⟨c, hc⟩ : ∃ c, c = s[a1]'hlt := ⟨_, rfl⟩
                    rw [← hc] at hat
                    have HAT1 := Lib.hid hat
                    have g1 : decide ((a1 : Int) < (s.size : Int)) = true := decide_eq_true (by omega)
                    have x39 : (((s[a1]'hlt).toNat : Int) == 39) = (c == 39) := by rw [← hc, Bool.eq_iff_iff]; simp [← UInt8.toNat_inj]; omega
                    have x104 : (((s[a1]'hlt).toNat : Int) == 104) = (c == 104) := by rw [← hc, Bool.eq_iff_iff]; simp [← UInt8.toNat_inj]; omega
                    have x72 : (((s[a1]'hlt).toNat : Int) == 72) = (c == 72) := by rw [← hc, Bool.eq_iff_iff]; simp [← UInt8.toNat_inj]; omega
                    have hmk : isMark c = ((c == 39) || (c == 104) || (c == 72)) := rfl
                    have HMK := Lib.hid hmk
                    clear hat hc hmk
                    cases y39 : (c == 39) with
                    | true =>
                      rw [y39] at x39 HMK
                      clear y39 x104 x72
                      go_wp2_with fail
                      rw [HR18.out]
                      exact ⟨rfl, rfl, _, Lib.hid (fun _ => ⟨c, HAT1.out, by rw [HMK.out]; rfl⟩), Lib.hid (fun h => by cases h), _, _, _, _, _, _, _, _, _, _, _, _, _, _, _, _, _, _, _, _, _, _, rfl⟩
                    | false =>
                      rw [y39] at x39 HMK
                      clear y39
                      cases y104 : (c == 104) with
                      | true =>
                        rw [y104] at x104 HMK
                        clear y104 x72
                        go_wp2_with fail
                        rw [HR18.out]
                        exact ⟨rfl, rfl, _, Lib.hid (fun _ => ⟨c, HAT1.out, by rw [HMK.out]; rfl⟩), Lib.hid (fun h => by cases h), _, _, _, _, _, _, _, _, _, _, _, _, _, _, _, _, _, _, _, _, _, _, rfl⟩
                      | false =>
                        rw [y104] at x104 HMK
                        clear y104
                        cases y72 : (c == 72) with
                        | true =>
                          rw [y72] at x72 HMK
                          clear y72
                          go_wp2_with fail
                          rw [HR18.out]
                          exact ⟨rfl, rfl, _, Lib.hid (fun _ => ⟨c, HAT1.out, by rw [HMK.out]; rfl⟩), Lib.hid (fun h => by cases h), _, _, _, _, _, _, _, _, _, _, _, _, _, _, _, _, _, _, _, _, _, _, rfl⟩
                        | false =>
                          rw [y72] at x72 HMK
                          clear y72
                          go_wp2_with fail
                          rw [HR18.out]
                          exact ⟨rfl, rfl, _, Lib.hid (fun h => by cases h), Lib.hid (fun _ d hd => by rw [HAT1.out] at hd; obtain rfl := Option.some.inj hd; rw [HMK.out]; rfl), _, _, _, _, _, _, _, _, _, _, _, _, _, _, _, _, _, _, _, _, _, _, rfl⟩
                  · have g1 : decide ((a1 : Int) < (s.size : Int)) = false := decide_eq_false (by omega)
                    have HNO := Lib.hid (show L[a1]? = none from List.getElem?_eq_none (by rw [HLL.out]; omega))
                    go_wp2_with fail
                    rw [HR18.out]
                    exact ⟨rfl, rfl, _, Lib.hid (fun h => by cases h), Lib.hid (fun _ d hd => by rw [HNO.out] at hd; cases hd), _, _, _, _, _, _, _, _, _, _, _, _, _, _, _, _, _, _, _, _, _, _, rfl⟩
                · rintro e a' W3 h
                  rw [HR18.out] at h
                  obtain ⟨rfl, rfl, hd, HM1, HM0, g70, g71, g72, g73, g74, g75, g76, g77, g78, g79, g80, g81, g82, g83, g84, g85, g86, g87, g88, g89, g90, g91, rfl⟩ := h
                  clear HR18
                  have HS := Lib.hid (satN_says D HD.out)
                  obtain ⟨i0, hi, hz0, hz1, hz2⟩ := info_parts ints_info
                  cases hd
                  · obtain ⟨m, hm⟩ : ∃ m : List UInt8, m = [] := ⟨_, rfl⟩
                    have HML := Lib.hid (show ∀ c ∈ m, isMark c = true by rw [hm]; simp)
                    obtain ⟨a2, ha2⟩ : ∃ a2 : Nat, a2 = a1 := ⟨_, rfl⟩
                    have HSP2 := Lib.hid (show L.drop a = D ++ m ++ L.drop a2 by rw [hm, ha2, List.append_nil]; exact HSP.out)
                    have HST := Lib.hid (show stepE (D ++ m) = (if valB D < 2147483648 then 0 else 2) ∧ (valB D < 2147483648 → stepN (D ++ m) = 0 + valB D) by rw [hm, List.append_nil]; exact ⟨by rw [(step_plain HD.out).1, ← HOKD.out]; rfl, fun hv => by rw [Nat.zero_add]; exact (step_plain HD.out).2 HOKD.out.symm hv⟩)
                    have HODD := Lib.hid (show ∀ c, L[a2]? = some c → c ≠ 47 → ∃ p ps, partsOf (L.drop a) = p :: ps ∧ stepE p = 3 from fun c hc h4 => by rw [ha2] at hc; rw [HSP.out, drop_at hc]; exact scan_odd HD.out (HT.out c hc) h4 (HM0.out rfl c hc))
                    have hl2 : a2 ≤ s.size := by omega
                    have hx2 : xs.length ≤ a2 := by have := HA1.out; omega
                    have hinc : a < a2 := by have := HA1.out; have hk : 0 < k := Nat.pos_of_ne_zero (fun hk => by have h5 := HKN.out.1 hk; rw [← HOKD.out] at h5; cases h5); omega
                    subst ha2
                    clear hm
                    have HINC := Lib.hid hinc
                    clear HM1 HM0 hinc
                    by_cases hv : n < 2147483648
                    · obtain ⟨r, hr⟩ : ∃ r : Nat, r = n % 2147483648 := ⟨_, rfl⟩
                      have d26 : decide ((2147483648 : Int) ≤ (n : Int)) = false := decide_eq_false (by omega)
                      have hvb : valB D < 2147483648 := HS.out.1.1 (by rw [← HN.out]; exact hv)
                      have hrv : r = valB D := by rw [hr, Nat.mod_eq_of_lt hv, HN.out]; exact HS.out.2.1 hvb
                      have HSE := Lib.hid (show stepE (D ++ m) = if false then 2 else 0 by rw [HST.out.1, if_pos hvb]; rfl)
                      have e1 : (n : Int).tmod 2147483648 = (r : Int) := by rw [Int.tmod_eq_emod_of_nonneg (by omega)]; omega
                      have e1b : (n : Int) % 2147483648 = (r : Int) := by omega
                      have hr2 : r < 2147483648 := by rw [hr]; exact Nat.mod_lt _ (by omega)
                      have e2 : IntKind.u32.wrap (r : Int) = (r : Int) := by rw [IntKind.wrap_u32]; omega
                      have e2b : IntKind.u64.wrap (r : Int) = (r : Int) := by rw [IntKind.wrap_u64]; omega
                      have HDN2 := Lib.hid (HDN.out.next (x := (r : Int)) (g' := g) HSE.out (by simp) (fun _ => by rw [HST.out.2 hvb, hrv]; omega))
                      clear hrv
                      clear hvb hv hr
                      have m1 : Ints .u32 (W3.alloc (.cells #[.int .u32 ((r : Int))] 27)) (W3.heap.size + 1) (.slice (some ⟨W3.heap.size, 0, none⟩) 1 1) [(r : Int)] := Ints.made .u32 W3 27 [(r : Int)] [_] rfl (by unfold maxLen; simp)
                      have HM1 := Lib.hid m1
                      have HO1 := Lib.hid (HOW.out.alloc (.cells #[.int .u32 ((r : Int))] 27))
                      have hWs : W.heap.size ≤ W3.heap.size := HBEL.out.size
                      have HB1 := Lib.hid (HBEL.out.alloc hWs (.cells #[.int .u32 ((r : Int))] 27))
                      clear m1
                      go_upto_region 27 with (at_builtin; refine wpList_append_ints rfl (.tmp 103) (.tmp 105) 41 rfl W.heap.size 27 i0 .u32 4 Tryd.underlying41 hi hz0 hz1 hz2 _ xs.length _ rfl HO1.out (W3.heap.size + 1) _ [(r : Int)] rfl HM1.out (by unfold maxLen; simp; omega) (by simp; omega) (by rw [World.size_alloc]; omega) ?_; intro v1 w1 hown1 hgr1 hob1; obtain ⟨A1, c1, rfl⟩ := own_form hown1; have HOW1 := Lib.hid hown1; have HBW1 := Lib.hid (HB1.out.grown hgr1 HB1.out.size (fun j hj => (HO1.out.lt j hj).1)); clear hown1 hgr1 hob1)
                      have HOW2 := Lib.hid (show w1.ownsRow W.heap.size 27 1 (.slice A1 (xs.length + 1) c1) (xs ++ [(r : Int)]).length ((xs ++ [(r : Int)]).map (Value.int .u32)) by rw [List.map_append, List.length_append]; exact HOW1.out)
                      clear HOW1 HM1 HO1 HB1 HOW HBEL HSE HST
                      by_cases hend : a2 = s.size
                      · have hQ : partsOf (L.drop a) = [D ++ m] := by rw [HSP2.out, List.drop_of_length_le (by rw [HLL.out]; omega), List.append_nil]; exact parts_end HD.out HML.out
                        have PD0 := parse_done HR.out HP.out hQ HDN2.out
                        have gE : ((a2 : Int) == (s.size : Int)) = true := by simp; omega
                        cases g with
                        | true =>
                          have PD := Lib.hid (show parseP L = ([], 2) by rw [PD0, if_pos (Or.inl rfl)])
                          clear PD0 hQ hend
                          go_wp2_with fail
                          go_ret2
                          exact ⟨_, by rw [PD.out]; rfl, by rw [PD.out]; exact World.ownsRow_nil _ _ _ _, HBW1.out⟩
                        | false =>
                          by_cases h5 : 255 < xs.length + 1
                          · have g5 : decide ((255 : Int) < (xs.length : Int) + 1) = true := decide_eq_true (by omega)
                            have g6 : decide ((255 : Int) < ((xs.length + 1 : Nat) : Int)) = true := decide_eq_true (by omega)
                            have PD := Lib.hid (show parseP L = ([], 2) by rw [PD0, if_pos (Or.inr (by simpa using h5))])
                            clear PD0 hQ hend
                            go_wp2_with fail
                            go_ret2
                            exact ⟨_, by rw [PD.out]; rfl, by rw [PD.out]; exact World.ownsRow_nil _ _ _ _, HBW1.out⟩
                          · have g5 : decide ((255 : Int) < (xs.length : Int) + 1) = false := decide_eq_false (by omega)
                            have g6 : decide ((255 : Int) < ((xs.length + 1 : Nat) : Int)) = false := decide_eq_false (by omega)
                            have PD := Lib.hid (show parseP L = (xs ++ [(r : Int)], 0) by rw [PD0, if_neg (fun h => h.elim (fun h => by cases h) (fun h => h5 (by simpa using h)))])
                            clear PD0 hQ hend
                            go_wp2_with fail
                            go_ret2
                            exact ⟨_, by rw [PD.out]; rfl, by rw [PD.out]; exact HOW2.out, HBW1.out⟩
                      · have hlt2 : a2 < s.size := by omega
                        have gE : ((a2 : Int) == (s.size : Int)) = false := by simp; omega
                        have hat2 : L[a2]? = some (s[a2]'hlt2) := by rw [HL.out]; exact List.getElem?_eq_getElem (by rw [blen]; exact hlt2)
                        obtain ⟨c2, hc2⟩ : ∃ c, c = s[a2]'hlt2 := ⟨_, rfl⟩
                        rw [← hc2] at hat2
                        have x47 : (((s[a2]'hlt2).toNat : Int) == 47) = (c2 == 47) := by rw [← hc2, Bool.eq_iff_iff]; simp [← UInt8.toNat_inj]; omega
                        have HAT2 := Lib.hid hat2
                        clear hat2 hc2 hend
                        by_cases y47 : c2 = 47
                        · subst y47
                          have HPN := Lib.hid (show partsOf (trimM L) = (dn ++ [D ++ m]) ++ partsOf (L.drop (a2 + 1)) by rw [HP.out, HSP2.out, drop_at HAT2.out, parts_go HD.out HML.out]; simp)
                          have x48 : (((s[a2]'hlt2).toNat : Int) == 47) = true := x47
                          clear x47
                          go_wp2_with fail
                          go_roundw
                          case rel => exact ⟨a2 + 1, g, dn ++ [D ++ m], xs ++ [(r : Int)], by omega, by go_num, rfl, HPN, HDN2, by simp; omega, by first | exact HOW2.out | (rw [List.length_append]; exact HOW2.out), HBW1.out⟩
                          case measure => simp [intOf]; have := HINC.out; omega
                        · have x48 : (((s[a2]'hlt2).toNat : Int) == 47) = false := by rw [x47]; simpa using y47
                          have BAD := Lib.hid (parse_bad HR.out HP.out (HODD.out c2 HAT2.out y47))
                          clear x47 y47
                          go_wp2_with fail
                          go_ret2
                          exact ⟨_, by rw [BAD.out]; rfl, by rw [BAD.out]; exact World.ownsRow_nil _ _ _ _, HBW1.out⟩
                    · obtain ⟨r, hr⟩ : ∃ r : Nat, r = n % 2147483648 := ⟨_, rfl⟩
                      have d26 : decide ((2147483648 : Int) ≤ (n : Int)) = true := decide_eq_true (by omega)
                      have hvb : ¬ valB D < 2147483648 := fun hc => hv (by rw [HN.out]; exact HS.out.1.2 hc)
                      have HSE := Lib.hid (show stepE (D ++ m) = if true then 2 else 0 by rw [HST.out.1, if_neg hvb]; rfl)
                      have e1 : (n : Int).tmod 2147483648 = (r : Int) := by rw [Int.tmod_eq_emod_of_nonneg (by omega)]; omega
                      have e1b : (n : Int) % 2147483648 = (r : Int) := by omega
                      have hr2 : r < 2147483648 := by rw [hr]; exact Nat.mod_lt _ (by omega)
                      have e2 : IntKind.u32.wrap (r : Int) = (r : Int) := by rw [IntKind.wrap_u32]; omega
                      have e2b : IntKind.u64.wrap (r : Int) = (r : Int) := by rw [IntKind.wrap_u64]; omega
                      have HDN2 := Lib.hid (HDN.out.next (x := (r : Int)) (g' := true) HSE.out (by simp) (fun h => by cases h))
                      clear hvb hv hr
                      have m1 : Ints .u32 (W3.alloc (.cells #[.int .u32 ((r : Int))] 27)) (W3.heap.size + 1) (.slice (some ⟨W3.heap.size, 0, none⟩) 1 1) [(r : Int)] := Ints.made .u32 W3 27 [(r : Int)] [_] rfl (by unfold maxLen; simp)
                      have HM1 := Lib.hid m1
                      have HO1 := Lib.hid (HOW.out.alloc (.cells #[.int .u32 ((r : Int))] 27))
                      have hWs : W.heap.size ≤ W3.heap.size := HBEL.out.size
                      have HB1 := Lib.hid (HBEL.out.alloc hWs (.cells #[.int .u32 ((r : Int))] 27))
                      clear m1
                      go_upto_region 27 with (at_builtin; refine wpList_append_ints rfl (.tmp 103) (.tmp 105) 41 rfl W.heap.size 27 i0 .u32 4 Tryd.underlying41 hi hz0 hz1 hz2 _ xs.length _ rfl HO1.out (W3.heap.size + 1) _ [(r : Int)] rfl HM1.out (by unfold maxLen; simp; omega) (by simp; omega) (by rw [World.size_alloc]; omega) ?_; intro v1 w1 hown1 hgr1 hob1; obtain ⟨A1, c1, rfl⟩ := own_form hown1; have HOW1 := Lib.hid hown1; have HBW1 := Lib.hid (HB1.out.grown hgr1 HB1.out.size (fun j hj => (HO1.out.lt j hj).1)); clear hown1 hgr1 hob1)
                      have HOW2 := Lib.hid (show w1.ownsRow W.heap.size 27 1 (.slice A1 (xs.length + 1) c1) (xs ++ [(r : Int)]).length ((xs ++ [(r : Int)]).map (Value.int .u32)) by rw [List.map_append, List.length_append]; exact HOW1.out)
                      clear HOW1 HM1 HO1 HB1 HOW HBEL HSE HST
                      by_cases hend : a2 = s.size
                      · have hQ : partsOf (L.drop a) = [D ++ m] := by rw [HSP2.out, List.drop_of_length_le (by rw [HLL.out]; omega), List.append_nil]; exact parts_end HD.out HML.out
                        have PD0 := parse_done HR.out HP.out hQ HDN2.out
                        have gE : ((a2 : Int) == (s.size : Int)) = true := by simp; omega
                        have PD := Lib.hid (show parseP L = ([], 2) by rw [PD0, if_pos (Or.inl rfl)])
                        clear PD0 hQ hend
                        go_wp2_with fail
                        go_ret2
                        exact ⟨_, by rw [PD.out]; rfl, by rw [PD.out]; exact World.ownsRow_nil _ _ _ _, HBW1.out⟩
                      · have hlt2 : a2 < s.size := by omega
                        have gE : ((a2 : Int) == (s.size : Int)) = false := by simp; omega
                        have hat2 : L[a2]? = some (s[a2]'hlt2) := by rw [HL.out]; exact List.getElem?_eq_getElem (by rw [blen]; exact hlt2)
                        obtain ⟨c2, hc2⟩ : ∃ c, c = s[a2]'hlt2 := ⟨_, rfl⟩
                        rw [← hc2] at hat2
                        have x47 : (((s[a2]'hlt2).toNat : Int) == 47) = (c2 == 47) := by rw [← hc2, Bool.eq_iff_iff]; simp [← UInt8.toNat_inj]; omega
                        have HAT2 := Lib.hid hat2
                        clear hat2 hc2 hend
                        by_cases y47 : c2 = 47
                        · subst y47
                          have HPN := Lib.hid (show partsOf (trimM L) = (dn ++ [D ++ m]) ++ partsOf (L.drop (a2 + 1)) by rw [HP.out, HSP2.out, drop_at HAT2.out, parts_go HD.out HML.out]; simp)
                          have x48 : (((s[a2]'hlt2).toNat : Int) == 47) = true := x47
                          clear x47
                          go_wp2_with fail
                          go_roundw
                          case rel => exact ⟨a2 + 1, true, dn ++ [D ++ m], xs ++ [(r : Int)], by omega, by go_num, rfl, HPN, HDN2, by simp; omega, by first | exact HOW2.out | (rw [List.length_append]; exact HOW2.out), HBW1.out⟩
                          case measure => simp [intOf]; have := HINC.out; omega
                        · have x48 : (((s[a2]'hlt2).toNat : Int) == 47) = false := by rw [x47]; simpa using y47
                          have BAD := Lib.hid (parse_bad HR.out HP.out (HODD.out c2 HAT2.out y47))
                          clear x47 y47
                          go_wp2_with fail
                          go_ret2
                          exact ⟨_, by rw [BAD.out]; rfl, by rw [BAD.out]; exact World.ownsRow_nil _ _ _ _, HBW1.out⟩
                  · obtain ⟨c, hc, hcm⟩ := HM1.out rfl
                    have hlt : a1 < s.size := by rw [← HLL.out]; exact (List.getElem?_eq_some_iff.1 hc).1
                    obtain ⟨m, hm⟩ : ∃ m : List UInt8, m = [c] := ⟨_, rfl⟩
                    have HML := Lib.hid (show ∀ c ∈ m, isMark c = true by rw [hm]; simpa using hcm)
                    obtain ⟨a2, ha2⟩ : ∃ a2 : Nat, a2 = a1 + 1 := ⟨_, rfl⟩
                    have ha2i : (a1 : Int) + 1 = (a2 : Int) := by omega
                    have HSP2 := Lib.hid (show L.drop a = D ++ m ++ L.drop a2 by rw [hm, ha2, HSP.out, drop_at hc]; simp)
                    have HST := Lib.hid (show stepE (D ++ m) = (if valB D < 2147483648 then 0 else 2) ∧ (valB D < 2147483648 → stepN (D ++ m) = 2147483648 + valB D) by rw [hm]; exact ⟨by rw [(step_mark HD.out hcm).1, ← HOKD.out]; rfl, fun hv => (step_mark HD.out hcm).2 HOKD.out.symm hv⟩)
                    have HODD := Lib.hid (show ∀ e, L[a2]? = some e → e ≠ 47 → ∃ p ps, partsOf (L.drop a) = p :: ps ∧ stepE p = 3 from fun e he h4 => by rw [ha2] at he; rw [HSP.out, drop_at hc, drop_at he]; exact scan_odd2 HD.out (HT.out c hc) hcm h4)
                    have hl2 : a2 ≤ s.size := by omega
                    have hx2 : xs.length ≤ a2 := by have := HA1.out; omega
                    have hinc : a < a2 := by have := HA1.out; omega
                    clear hc hcm hm ha2 hlt
                    have HINC := Lib.hid hinc
                    clear HM1 HM0 hinc
                    by_cases hv : n < 2147483648
                    · obtain ⟨r, hr⟩ : ∃ r : Nat, r = n % 2147483648 := ⟨_, rfl⟩
                      have d26 : decide ((2147483648 : Int) ≤ (n : Int)) = false := decide_eq_false (by omega)
                      have hvb : valB D < 2147483648 := HS.out.1.1 (by rw [← HN.out]; exact hv)
                      have hrv : r = valB D := by rw [hr, Nat.mod_eq_of_lt hv, HN.out]; exact HS.out.2.1 hvb
                      have HSE := Lib.hid (show stepE (D ++ m) = if false then 2 else 0 by rw [HST.out.1, if_pos hvb]; rfl)
                      have e1 : (n : Int).tmod 2147483648 = (r : Int) := by rw [Int.tmod_eq_emod_of_nonneg (by omega)]; omega
                      have e1b : (n : Int) % 2147483648 = (r : Int) := by omega
                      have hr2 : r < 2147483648 := by rw [hr]; exact Nat.mod_lt _ (by omega)
                      have e2 : IntKind.u32.wrap (r : Int) = (r : Int) := by rw [IntKind.wrap_u32]; omega
                      have e2b : IntKind.u64.wrap (r : Int) = (r : Int) := by rw [IntKind.wrap_u64]; omega
                      have e3 : IntKind.u32.wrap ((r : Int) + 2147483648) = (r : Int) + 2147483648 := by rw [IntKind.wrap_u32]; omega
                      have HDN2 := Lib.hid (HDN.out.next (x := (r : Int) + 2147483648) (g' := g) HSE.out (by simp) (fun _ => by rw [HST.out.2 hvb, hrv]; omega))
                      clear hrv
                      clear hvb hv hr
                      have m1 : Ints .u32 (W3.alloc (.cells #[.int .u32 ((r : Int) + 2147483648)] 27)) (W3.heap.size + 1) (.slice (some ⟨W3.heap.size, 0, none⟩) 1 1) [(r : Int) + 2147483648] := Ints.made .u32 W3 27 [(r : Int) + 2147483648] [_] rfl (by unfold maxLen; simp)
                      have HM1 := Lib.hid m1
                      have HO1 := Lib.hid (HOW.out.alloc (.cells #[.int .u32 ((r : Int) + 2147483648)] 27))
                      have hWs : W.heap.size ≤ W3.heap.size := HBEL.out.size
                      have HB1 := Lib.hid (HBEL.out.alloc hWs (.cells #[.int .u32 ((r : Int) + 2147483648)] 27))
                      clear m1
                      go_upto_region 27 with (at_builtin; refine wpList_append_ints rfl (.tmp 103) (.tmp 105) 41 rfl W.heap.size 27 i0 .u32 4 Tryd.underlying41 hi hz0 hz1 hz2 _ xs.length _ rfl HO1.out (W3.heap.size + 1) _ [(r : Int) + 2147483648] rfl HM1.out (by unfold maxLen; simp; omega) (by simp; omega) (by rw [World.size_alloc]; omega) ?_; intro v1 w1 hown1 hgr1 hob1; obtain ⟨A1, c1, rfl⟩ := own_form hown1; have HOW1 := Lib.hid hown1; have HBW1 := Lib.hid (HB1.out.grown hgr1 HB1.out.size (fun j hj => (HO1.out.lt j hj).1)); clear hown1 hgr1 hob1)
                      have HOW2 := Lib.hid (show w1.ownsRow W.heap.size 27 1 (.slice A1 (xs.length + 1) c1) (xs ++ [(r : Int) + 2147483648]).length ((xs ++ [(r : Int) + 2147483648]).map (Value.int .u32)) by rw [List.map_append, List.length_append]; exact HOW1.out)
                      clear HOW1 HM1 HO1 HB1 HOW HBEL HSE HST
                      by_cases hend : a2 = s.size
                      · have hQ : partsOf (L.drop a) = [D ++ m] := by rw [HSP2.out, List.drop_of_length_le (by rw [HLL.out]; omega), List.append_nil]; exact parts_end HD.out HML.out
                        have PD0 := parse_done HR.out HP.out hQ HDN2.out
                        have gE : ((a2 : Int) == (s.size : Int)) = true := by simp; omega
                        cases g with
                        | true =>
                          have PD := Lib.hid (show parseP L = ([], 2) by rw [PD0, if_pos (Or.inl rfl)])
                          clear PD0 hQ hend
                          go_wp2_with fail
                          go_ret2
                          exact ⟨_, by rw [PD.out]; rfl, by rw [PD.out]; exact World.ownsRow_nil _ _ _ _, HBW1.out⟩
                        | false =>
                          by_cases h5 : 255 < xs.length + 1
                          · have g5 : decide ((255 : Int) < (xs.length : Int) + 1) = true := decide_eq_true (by omega)
                            have g6 : decide ((255 : Int) < ((xs.length + 1 : Nat) : Int)) = true := decide_eq_true (by omega)
                            have PD := Lib.hid (show parseP L = ([], 2) by rw [PD0, if_pos (Or.inr (by simpa using h5))])
                            clear PD0 hQ hend
                            go_wp2_with fail
                            go_ret2
                            exact ⟨_, by rw [PD.out]; rfl, by rw [PD.out]; exact World.ownsRow_nil _ _ _ _, HBW1.out⟩
                          · have g5 : decide ((255 : Int) < (xs.length : Int) + 1) = false := decide_eq_false (by omega)
                            have g6 : decide ((255 : Int) < ((xs.length + 1 : Nat) : Int)) = false := decide_eq_false (by omega)
                            have PD := Lib.hid (show parseP L = (xs ++ [(r : Int) + 2147483648], 0) by rw [PD0, if_neg (fun h => h.elim (fun h => by cases h) (fun h => h5 (by simpa using h)))])
                            clear PD0 hQ hend
                            go_wp2_with fail
                            go_ret2
                            exact ⟨_, by rw [PD.out]; rfl, by rw [PD.out]; exact HOW2.out, HBW1.out⟩
                      · have hlt2 : a2 < s.size := by omega
                        have gE : ((a2 : Int) == (s.size : Int)) = false := by simp; omega
                        have hat2 : L[a2]? = some (s[a2]'hlt2) := by rw [HL.out]; exact List.getElem?_eq_getElem (by rw [blen]; exact hlt2)
                        obtain ⟨c2, hc2⟩ : ∃ c, c = s[a2]'hlt2 := ⟨_, rfl⟩
                        rw [← hc2] at hat2
                        have x47 : (((s[a2]'hlt2).toNat : Int) == 47) = (c2 == 47) := by rw [← hc2, Bool.eq_iff_iff]; simp [← UInt8.toNat_inj]; omega
                        have HAT2 := Lib.hid hat2
                        clear hat2 hc2 hend
                        by_cases y47 : c2 = 47
                        · subst y47
                          have HPN := Lib.hid (show partsOf (trimM L) = (dn ++ [D ++ m]) ++ partsOf (L.drop (a2 + 1)) by rw [HP.out, HSP2.out, drop_at HAT2.out, parts_go HD.out HML.out]; simp)
                          have x48 : (((s[a2]'hlt2).toNat : Int) == 47) = true := x47
                          clear x47
                          go_wp2_with fail
                          go_roundw
                          case rel => exact ⟨a2 + 1, g, dn ++ [D ++ m], xs ++ [(r : Int) + 2147483648], by omega, by go_num, rfl, HPN, HDN2, by simp; omega, by first | exact HOW2.out | (rw [List.length_append]; exact HOW2.out), HBW1.out⟩
                          case measure => simp [intOf]; have := HINC.out; omega
                        · have x48 : (((s[a2]'hlt2).toNat : Int) == 47) = false := by rw [x47]; simpa using y47
                          have BAD := Lib.hid (parse_bad HR.out HP.out (HODD.out c2 HAT2.out y47))
                          clear x47 y47
                          go_wp2_with fail
                          go_ret2
                          exact ⟨_, by rw [BAD.out]; rfl, by rw [BAD.out]; exact World.ownsRow_nil _ _ _ _, HBW1.out⟩
                    · obtain ⟨r, hr⟩ : ∃ r : Nat, r = n % 2147483648 := ⟨_, rfl⟩
                      have d26 : decide ((2147483648 : Int) ≤ (n : Int)) = true := decide_eq_true (by omega)
                      have hvb : ¬ valB D < 2147483648 := fun hc => hv (by rw [HN.out]; exact HS.out.1.2 hc)
                      have HSE := Lib.hid (show stepE (D ++ m) = if true then 2 else 0 by rw [HST.out.1, if_neg hvb]; rfl)
                      have e1 : (n : Int).tmod 2147483648 = (r : Int) := by rw [Int.tmod_eq_emod_of_nonneg (by omega)]; omega
                      have e1b : (n : Int) % 2147483648 = (r : Int) := by omega
                      have hr2 : r < 2147483648 := by rw [hr]; exact Nat.mod_lt _ (by omega)
                      have e2 : IntKind.u32.wrap (r : Int) = (r : Int) := by rw [IntKind.wrap_u32]; omega
                      have e2b : IntKind.u64.wrap (r : Int) = (r : Int) := by rw [IntKind.wrap_u64]; omega
                      have e3 : IntKind.u32.wrap ((r : Int) + 2147483648) = (r : Int) + 2147483648 := by rw [IntKind.wrap_u32]; omega
                      have HDN2 := Lib.hid (HDN.out.next (x := (r : Int) + 2147483648) (g' := true) HSE.out (by simp) (fun h => by cases h))
                      clear hvb hv hr
                      have m1 : Ints .u32 (W3.alloc (.cells #[.int .u32 ((r : Int) + 2147483648)] 27)) (W3.heap.size + 1) (.slice (some ⟨W3.heap.size, 0, none⟩) 1 1) [(r : Int) + 2147483648] := Ints.made .u32 W3 27 [(r : Int) + 2147483648] [_] rfl (by unfold maxLen; simp)
                      have HM1 := Lib.hid m1
                      have HO1 := Lib.hid (HOW.out.alloc (.cells #[.int .u32 ((r : Int) + 2147483648)] 27))
                      have hWs : W.heap.size ≤ W3.heap.size := HBEL.out.size
                      have HB1 := Lib.hid (HBEL.out.alloc hWs (.cells #[.int .u32 ((r : Int) + 2147483648)] 27))
                      clear m1
                      go_upto_region 27 with (at_builtin; refine wpList_append_ints rfl (.tmp 103) (.tmp 105) 41 rfl W.heap.size 27 i0 .u32 4 Tryd.underlying41 hi hz0 hz1 hz2 _ xs.length _ rfl HO1.out (W3.heap.size + 1) _ [(r : Int) + 2147483648] rfl HM1.out (by unfold maxLen; simp; omega) (by simp; omega) (by rw [World.size_alloc]; omega) ?_; intro v1 w1 hown1 hgr1 hob1; obtain ⟨A1, c1, rfl⟩ := own_form hown1; have HOW1 := Lib.hid hown1; have HBW1 := Lib.hid (HB1.out.grown hgr1 HB1.out.size (fun j hj => (HO1.out.lt j hj).1)); clear hown1 hgr1 hob1)
                      have HOW2 := Lib.hid (show w1.ownsRow W.heap.size 27 1 (.slice A1 (xs.length + 1) c1) (xs ++ [(r : Int) + 2147483648]).length ((xs ++ [(r : Int) + 2147483648]).map (Value.int .u32)) by rw [List.map_append, List.length_append]; exact HOW1.out)
                      clear HOW1 HM1 HO1 HB1 HOW HBEL HSE HST
                      by_cases hend : a2 = s.size
                      · have hQ : partsOf (L.drop a) = [D ++ m] := by rw [HSP2.out, List.drop_of_length_le (by rw [HLL.out]; omega), List.append_nil]; exact parts_end HD.out HML.out
                        have PD0 := parse_done HR.out HP.out hQ HDN2.out
                        have gE : ((a2 : Int) == (s.size : Int)) = true := by simp; omega
                        have PD := Lib.hid (show parseP L = ([], 2) by rw [PD0, if_pos (Or.inl rfl)])
                        clear PD0 hQ hend
                        go_wp2_with fail
                        go_ret2
                        exact ⟨_, by rw [PD.out]; rfl, by rw [PD.out]; exact World.ownsRow_nil _ _ _ _, HBW1.out⟩
                      · have hlt2 : a2 < s.size := by omega
                        have gE : ((a2 : Int) == (s.size : Int)) = false := by simp; omega
                        have hat2 : L[a2]? = some (s[a2]'hlt2) := by rw [HL.out]; exact List.getElem?_eq_getElem (by rw [blen]; exact hlt2)
                        obtain ⟨c2, hc2⟩ : ∃ c, c = s[a2]'hlt2 := ⟨_, rfl⟩
                        rw [← hc2] at hat2
                        have x47 : (((s[a2]'hlt2).toNat : Int) == 47) = (c2 == 47) := by rw [← hc2, Bool.eq_iff_iff]; simp [← UInt8.toNat_inj]; omega
                        have HAT2 := Lib.hid hat2
                        clear hat2 hc2 hend
                        by_cases y47 : c2 = 47
                        · subst y47
                          have HPN := Lib.hid (show partsOf (trimM L) = (dn ++ [D ++ m]) ++ partsOf (L.drop (a2 + 1)) by rw [HP.out, HSP2.out, drop_at HAT2.out, parts_go HD.out HML.out]; simp)
                          have x48 : (((s[a2]'hlt2).toNat : Int) == 47) = true := x47
                          clear x47
                          go_wp2_with fail
                          go_roundw
                          case rel => exact ⟨a2 + 1, true, dn ++ [D ++ m], xs ++ [(r : Int) + 2147483648], by omega, by go_num, rfl, HPN, HDN2, by simp; omega, by first | exact HOW2.out | (rw [List.length_append]; exact HOW2.out), HBW1.out⟩
                          case measure => simp [intOf]; have := HINC.out; omega
                        · have x48 : (((s[a2]'hlt2).toNat : Int) == 47) = false := by rw [x47]; simpa using y47
                          have BAD := Lib.hid (parse_bad HR.out HP.out (HODD.out c2 HAT2.out y47))
                          clear x47 y47
                          go_wp2_with fail
                          go_ret2
                          exact ⟨_, by rw [BAD.out]; rfl, by rw [BAD.out]; exact World.ownsRow_nil _ _ _ _, HBW1.out⟩
      · obtain rfl : a0 = 2 := by simp at ha0; omega
        clear hL hLl ht hb
        go_wp2_with fail
        go_loopw [4, 5, 6] (fun v4 v5 v6 wr => ∃ (a : Nat) (g : Bool) (dn : List (List UInt8)) (xs : List Int), a ≤ s.size ∧ v4 = .int .i64 (a : Int) ∧ v6 = .bool g ∧ Hid (partsOf (trimM L) = dn ++ partsOf (L.drop a)) ∧ Hid (Done dn g xs) ∧ xs.length ≤ a ∧ wr.ownsRow W.heap.size 27 1 v5 xs.length (xs.map (Value.int .u32)) ∧ Below W.heap.size W wr) (fun v4 _ _ _ => s.size - (intOf v4).toNat)
        case atStart => exact ⟨2, false, [], [], hi0, rfl, rfl, Lib.hid (by rw [HAT.out]; rfl), Lib.hid Done.nil, Nat.zero_le _, World.ownsRow_nil _ _ _ _, Below.refl _ _⟩
        case round =>
          obtain ⟨a, g, dn, xs, ha, rfl, rfl, HP, HDN, hxl, hown, hbel⟩ := hrel
          obtain ⟨A5, c5, rfl⟩ := own_form hown
          have HOW := Lib.hid hown
          have HBEL := Lib.hid hbel
          clear hown hbel
          go_wp2_with fail
          obtain ⟨R8, hR8⟩ : ∃ R : Exit → Act → World → Prop, R = fun e a' W' => e = .exit 2 ∧ W' = wr ∧ ∃ k a1 : Nat, a1 = a + k ∧ a1 ≤ s.size ∧ Hid (((L.drop a).take k).all dB = true) ∧ Hid (∀ c, L[a1]? = some c → dB c = false) ∧ ∃ (g28 g29 g30 g31 g32 g33 g34 g35 g36 g37 g38 g39 g40 g41 g42 g43 g44 g45 g46 g47 g48 g49 g50 g51 g52 g53 g54 g55 g56 g57 : Value), a' = ⟨List.toArray (.string s :: undef :: u2 :: u3 :: .int .i64 (a1 : Int) :: .slice A5 xs.length c5 :: .bool g :: .int .u64 (satN ((L.drop a).take k) : Nat) :: .int .i64 (k : Int) :: .int .i64 (a : Int) :: u10 :: u11 :: .string s :: .bool false :: g14 :: g15 :: g16 :: g17 :: g18 :: g19 :: g20 :: g21 :: g22 :: g23 :: g24 :: g25 :: .bool true :: .int .i64 (a : Int) :: g28 :: g29 :: g30 :: g31 :: g32 :: g33 :: g34 :: g35 :: g36 :: g37 :: g38 :: g39 :: g40 :: g41 :: g42 :: g43 :: g44 :: g45 :: g46 :: g47 :: g48 :: g49 :: g50 :: g51 :: g52 :: g53 :: g54 :: g55 :: g56 :: g57 :: u58 :: u59 :: u60 :: u61 :: u62 :: u63 :: u64 :: u65 :: u66 :: u67 :: u68 :: u69 :: u70 :: u71 :: u72 :: u73 :: u74 :: u75 :: u76 :: u77 :: u78 :: u79 :: u80 :: u81 :: u82 :: u83 :: u84 :: u85 :: u86 :: u87 :: u88 :: u89 :: u90 :: u91 :: u92 :: u93 :: u94 :: u95 :: u96 :: u97 :: u98 :: u99 :: u100 :: u101 :: u102 :: u103 :: u104 :: u105 :: u106 :: u107 :: u108 :: u109 :: u110 :: u111 :: u112 :: u113 :: u114 :: u115 :: u116 :: undef :: undef :: undef :: undef :: undef :: undef :: undef :: []), []⟩ := ⟨_, rfl⟩
          refine wp_mono (Q := R8) ?_ ?_
          · have HR8 := Lib.hid hR8
            clear hR8
            go_loopw [4, 7, 8] (fun v4 v7 v8 wx => ∃ k : Nat, a + k ≤ s.size ∧ v4 = .int .i64 ((a + k : Nat) : Int) ∧ v8 = .int .i64 (k : Int) ∧ v7 = .int .u64 (satN ((L.drop a).take k) : Nat) ∧ Hid (((L.drop a).take k).all dB = true) ∧ wx = wr) (fun v4 _ _ _ => s.size - (intOf v4).toNat)
            case atStart => exact ⟨0, ha, rfl, rfl, rfl, Lib.hid rfl, rfl⟩
            case round =>
              obtain ⟨k, hk, rfl, rfl, rfl, HD, rfl⟩ := hrel
              obtain ⟨a1, ha1⟩ : ∃ a1 : Nat, a1 = a + k := ⟨_, rfl⟩
              rw [← ha1] at hk ⊢
              by_cases hlt : a1 < s.size
              · have hat : L[a1]? = some (s[a1]'hlt) := by rw [HL.out]; exact List.getElem?_eq_getElem (by rw [blen]; exact hlt)
                have hsn : (L.drop a).take (k + 1) = (L.drop a).take k ++ [s[a1]'hlt] := by rw [List.take_add_one, List.getElem?_drop, ← ha1, hat]; rfl
                have HAT1 := Lib.hid hat
                have HSN := Lib.hid hsn
                clear hat hsn
                have HA1 := Lib.hid ha1
                have hk9 : k < 100000 := by omega
                clear ha1
                by_cases h48 : ((s[a1]'hlt).toNat : Int) < 48
                · go_wp2_with fail
                  rw [HR8.out]
                  exact ⟨rfl, rfl, k, a1, HA1.out, by omega, HD, Lib.hid (fun c hc => by rw [HAT1.out] at hc; obtain rfl := Option.some.inj hc; unfold dB; simp; omega), _, _, _, _, _, _, _, _, _, _, _, _, _, _, _, _, _, _, _, _, _, _, _, _, _, _, _, _, _, _, rfl⟩
                by_cases h57 : 57 < ((s[a1]'hlt).toNat : Int)
                · go_wp2_with fail
                  rw [HR8.out]
                  exact ⟨rfl, rfl, k, a1, HA1.out, by omega, HD, Lib.hid (fun c hc => by rw [HAT1.out] at hc; obtain rfl := Option.some.inj hc; unfold dB; simp; omega), _, _, _, _, _, _, _, _, _, _, _, _, _, _, _, _, _, _, _, _, _, _, _, _, _, _, _, _, _, _, rfl⟩
                have hdc : dB (s[a1]'hlt) = true := by unfold dB; simp; omega
                have HD2 := Lib.hid (show ((L.drop a).take (k + 1)).all dB = true by rw [HSN.out, List.all_append, HD.out]; simp [hdc])
                have hss := (satN_says _ HD.out).2.2
                have hm : satN ((L.drop a).take (k + 1)) = if satN ((L.drop a).take k) < 2147483648 then satN ((L.drop a).take k) * 10 + ((s[a1]'hlt).toNat - 48) else satN ((L.drop a).take k) := by rw [HSN.out, satN_snoc]
                obtain ⟨n, hn⟩ : ∃ n, n = satN ((L.drop a).take k) := ⟨_, rfl⟩
                obtain ⟨m, hm0⟩ : ∃ m, m = satN ((L.drop a).take (k + 1)) := ⟨_, rfl⟩
                rw [← hn] at hm hss ⊢
                rw [← hm0] at hm
                have HM0 := Lib.hid hm0
                obtain ⟨d, hd⟩ : ∃ d : Nat, d = (s[a1]'hlt).toNat - 48 := ⟨_, rfl⟩
                rw [← hd] at hm
                have e1 : ((s[a1]'hlt).toNat : Int) - 48 = (d : Int) := by omega
                have hd9 : d ≤ 9 := by omega
                have e4 : IntKind.u8.wrap (d : Int) = (d : Int) := by rw [IntKind.wrap_u8]; omega
                have e5 : IntKind.u64.wrap (d : Int) = (d : Int) := by rw [IntKind.wrap_u64]; omega
                have i1 : (48 : Int) ≤ ((s[a1]'hlt).toNat : Int) := by omega
                have i2 : ((s[a1]'hlt).toNat : Int) ≤ 57 := by omega
                clear hn hm0 hd hdc
                by_cases hb : n < 2147483648
                · rw [if_pos hb] at hm
                  have e8 : IntKind.u64.wrap (10 * (n : Int)) = 10 * (n : Int) := by rw [IntKind.wrap_u64]; omega
                  have e9 : IntKind.u64.wrap (10 * (n : Int) + (d : Int)) = (m : Int) := by rw [IntKind.wrap_u64]; omega
                  have e10 : 10 * (n : Int) + (d : Int) = (m : Int) := by omega
                  have e11 : decide ((n : Int) < 2147483648) = true := decide_eq_true (by omega)
                  clear hm hss
                  go_wp2_with fail
                  go_roundw
                  case rel => exact ⟨k + 1, by have := HA1.out; omega, by have := HA1.out; go_num, by have := HA1.out; go_num, by rw [← HM0.out], HD2, trivial⟩
                  case measure => simp [intOf]; omega
                · rw [if_neg hb] at hm
                  have e11 : decide ((n : Int) < 2147483648) = false := decide_eq_false (by omega)
                  have HM := Lib.hid hm
                  clear hm hss
                  go_wp2_with fail
                  go_roundw
                  case rel => exact ⟨k + 1, by have := HA1.out; omega, by have := HA1.out; go_num, by have := HA1.out; go_num, by rw [← HM0.out, HM.out], HD2, trivial⟩
                  case measure => simp [intOf]; omega
              · have HA1 := Lib.hid ha1
                clear ha1
                go_wp2_with fail
                rw [HR8.out]
                exact ⟨rfl, rfl, k, a1, HA1.out, by omega, HD, Lib.hid (fun c hc => absurd hc (by rw [List.getElem?_eq_none (by rw [HLL.out]; omega)]; simp)), _, _, _, _, _, _, _, _, _, _, _, _, _, _, _, _, _, _, _, _, _, _, _, _, _, _, _, _, _, _, rfl⟩
          · rintro e a' W' h
            rw [hR8] at h
            obtain ⟨rfl, rfl, k, a1, ha1, hl1, HD, HT, g28, g29, g30, g31, g32, g33, g34, g35, g36, g37, g38, g39, g40, g41, g42, g43, g44, g45, g46, g47, g48, g49, g50, g51, g52, g53, g54, g55, g56, g57, rfl⟩ := h
            clear hR8 R8
            obtain ⟨D, hDd⟩ : ∃ D, D = (L.drop a).take k := ⟨_, rfl⟩
            rw [← hDd] at HD ⊢
            have hDlen : D.length = k := by rw [hDd, List.length_take, List.length_drop, HLL.out]; omega
            have hsp : L.drop a = D ++ L.drop a1 := by rw [hDd]; exact drop_split L a k a1 ha1
            have hD0 : 0 < k → D[0]? = L[a]? := fun h => by rw [hDd, List.getElem?_take, if_pos h, List.getElem?_drop]; rfl
            have HSP := Lib.hid hsp
            have HD0 := Lib.hid hD0
            have HDL := Lib.hid hDlen
            have HA1 := Lib.hid ha1
            have hk9 : k ≤ 100000 := by omega
            obtain ⟨n, hn⟩ : ∃ n, n = satN D := ⟨_, rfl⟩
            rw [← hn]
            have HN := Lib.hid hn
            obtain ⟨ok, hok⟩ : ∃ ok, ok = digOk D := ⟨_, rfl⟩
            have HOKD := Lib.hid hok
            have HKN := Lib.hid (digOk_len D)
            rw [hDlen] at HKN
            clear hsp hD0 hDlen ha1 hn hok hDd
            go_upto_region 16 with fail
            obtain ⟨R16, hR16⟩ : ∃ R : Exit → Act → World → Prop, R = fun e a' W2 => e = .normal ∧ W2 = W' ∧ ∃ nb : Bool, nb = !ok ∧ ∃ (g58 g59 g60 g61 g62 g63 g64 g65 g66 g67 g68 : Value), a' = ⟨List.toArray (.string s :: undef :: u2 :: u3 :: .int .i64 (a1 : Int) :: .slice A5 xs.length c5 :: .bool g :: .int .u64 (n : Int) :: .int .i64 (k : Int) :: .int .i64 (a : Int) :: u10 :: u11 :: .string s :: .bool false :: g14 :: g15 :: g16 :: g17 :: g18 :: g19 :: g20 :: g21 :: g22 :: g23 :: g24 :: g25 :: .bool true :: .int .i64 (a : Int) :: g28 :: g29 :: g30 :: g31 :: g32 :: g33 :: g34 :: g35 :: g36 :: g37 :: g38 :: g39 :: g40 :: g41 :: g42 :: g43 :: g44 :: g45 :: g46 :: g47 :: g48 :: g49 :: g50 :: g51 :: g52 :: g53 :: g54 :: g55 :: g56 :: g57 :: g58 :: g59 :: g60 :: g61 :: g62 :: g63 :: g64 :: g65 :: g66 :: g67 :: g68 :: .bool nb :: u70 :: u71 :: u72 :: u73 :: u74 :: u75 :: u76 :: u77 :: u78 :: u79 :: u80 :: u81 :: u82 :: u83 :: u84 :: u85 :: u86 :: u87 :: u88 :: u89 :: u90 :: u91 :: u92 :: u93 :: u94 :: u95 :: u96 :: u97 :: u98 :: u99 :: u100 :: u101 :: u102 :: u103 :: u104 :: u105 :: u106 :: u107 :: u108 :: u109 :: u110 :: u111 :: u112 :: u113 :: u114 :: u115 :: u116 :: undef :: undef :: undef :: undef :: undef :: undef :: undef :: []), []⟩ := ⟨_, rfl⟩
            have HR16 := Lib.hid hR16
            clear hR16
            refine wp_mono (Q := R16) ?_ ?_
            · by_cases hk0 : k = 0
              · have kz : ((k : Int) == 0) = true := by rw [hk0]; rfl
                have HOK := Lib.hid (show ok = false by rw [HOKD.out]; exact HKN.out.1 hk0)
                clear hk0
                go_wp2_with fail
                rw [HR16.out]
                exact ⟨rfl, rfl, _, by rw [HOK.out]; rfl, _, _, _, _, _, _, _, _, _, _, _, rfl⟩
              · have kz : ((k : Int) == 0) = false := by simp; omega
                by_cases hk1 : k = 1
                · have g1 : decide ((1 : Int) < (k : Int)) = false := decide_eq_false (by omega)
                  have HOK := Lib.hid (show ok = true by rw [HOKD.out]; exact HKN.out.2.1 hk1)
                  clear hk0 hk1
                  go_wp2_with fail
                  rw [HR16.out]
                  exact ⟨rfl, rfl, _, by rw [HOK.out]; rfl, _, _, _, _, _, _, _, _, _, _, _, rfl⟩
                · have g1 : decide ((1 : Int) < (k : Int)) = true := decide_eq_true (by omega)
                  have hax : a < s.size := by have := HA1.out; omega
                  have hat : L[a]? = some (s[a]'hax) := by rw [HL.out]; exact List.getElem?_eq_getElem (by rw [blen]; exact hax)
                  obtain ⟨c, hc⟩ : ∃ c, c = s[a]'hax := ⟨_, rfl⟩
                  rw [← hc] at hat
                  have HOK := Lib.hid (show ok = !(c == 48) by rw [HOKD.out]; exact HKN.out.2.2 (by omega) c ((HD0.out (by omega)).trans hat))
                  have x0 : (((s[a]'hax).toNat : Int) == 48) = (c == 48) := by rw [← hc, Bool.eq_iff_iff]; simp [← UInt8.toNat_inj]; omega
                  clear hat hc hk0 hk1
                  cases hc48 : (c == 48) with
                  | false =>
                    rw [hc48] at x0 HOK
                    clear hc48
                    go_wp2_with fail
                    rw [HR16.out]
                    exact ⟨rfl, rfl, _, by rw [HOK.out]; rfl, _, _, _, _, _, _, _, _, _, _, _, rfl⟩
                  | true =>
                    rw [hc48] at x0 HOK
                    clear hc48
                    go_wp2_with fail
                    rw [HR16.out]
                    exact ⟨rfl, rfl, _, by rw [HOK.out]; rfl, _, _, _, _, _, _, _, _, _, _, _, rfl⟩
            · rintro e a' W2 h
              rw [HR16.out] at h
              obtain ⟨rfl, rfl, nb, hnb, g58, g59, g60, g61, g62, g63, g64, g65, g66, g67, g68, rfl⟩ := h
              clear HR16
              cases ok with
              | false =>
                obtain rfl : nb = true := by rw [hnb]; rfl
                clear hnb
                have BAD := Lib.hid (parse_bad HR.out HP.out (by rw [HSP.out]; exact scan_bad HD.out (fun c r hcr => HT.out c (by rw [← List.head?_drop, hcr]; rfl)) HOKD.out.symm))
                go_wp2_with fail
                go_ret2
                exact ⟨_, by rw [BAD.out]; rfl, by rw [BAD.out]; exact World.ownsRow_nil _ _ _ _, HBEL.out⟩
              | true =>
                obtain rfl : nb = false := by rw [hnb]; rfl
                clear hnb
                go_upto_region 18 with fail
                obtain ⟨R18, hR18⟩ : ∃ R : Exit → Act → World → Prop, R = fun e a' W3 => e = .normal ∧ W3 = W2 ∧ ∃ hd : Bool, Hid (hd = true → ∃ c, L[a1]? = some c ∧ isMark c = true) ∧ Hid (hd = false → ∀ c, L[a1]? = some c → isMark c = false) ∧ ∃ (g70 g71 g72 g73 g74 g75 g76 g77 g78 g79 g80 g81 g82 g83 g84 g85 g86 g87 g88 g89 g90 g91 : Value), a' = ⟨List.toArray (.string s :: undef :: u2 :: u3 :: .int .i64 (a1 : Int) :: .slice A5 xs.length c5 :: .bool g :: .int .u64 (n : Int) :: .int .i64 (k : Int) :: .int .i64 (a : Int) :: .bool hd :: u11 :: .string s :: .bool false :: g14 :: g15 :: g16 :: g17 :: g18 :: g19 :: g20 :: g21 :: g22 :: g23 :: g24 :: g25 :: .bool true :: .int .i64 (a : Int) :: g28 :: g29 :: g30 :: g31 :: g32 :: g33 :: g34 :: g35 :: g36 :: g37 :: g38 :: g39 :: g40 :: g41 :: g42 :: g43 :: g44 :: g45 :: g46 :: g47 :: g48 :: g49 :: g50 :: g51 :: g52 :: g53 :: g54 :: g55 :: g56 :: g57 :: g58 :: g59 :: g60 :: g61 :: g62 :: g63 :: g64 :: g65 :: g66 :: g67 :: g68 :: .bool false :: g70 :: g71 :: g72 :: g73 :: g74 :: g75 :: g76 :: g77 :: g78 :: g79 :: g80 :: g81 :: g82 :: g83 :: g84 :: g85 :: g86 :: g87 :: g88 :: g89 :: g90 :: g91 :: u92 :: u93 :: u94 :: u95 :: u96 :: u97 :: u98 :: u99 :: u100 :: u101 :: u102 :: u103 :: u104 :: u105 :: u106 :: u107 :: u108 :: u109 :: u110 :: u111 :: u112 :: u113 :: u114 :: u115 :: u116 :: undef :: undef :: undef :: undef :: undef :: undef :: undef :: []), []⟩ := ⟨_, rfl⟩
                have HR18 := Lib.hid hR18
                clear hR18
                refine wp_mono (Q := R18) ?_ ?_
                · by_cases hlt : a1 < s.size
                  · have hat : L[a1]? = some (s[a1]'hlt) := by rw [HL.out]; exact List.getElem?_eq_getElem (by rw [blen]; exact hlt)
                    obtain ⟨c, hc⟩ : ∃ c, c = s[a1]'hlt := ⟨_, rfl⟩
                    rw [← hc] at hat
                    have HAT1 := Lib.hid hat
                    have g1 : decide ((a1 : Int) < (s.size : Int)) = true := decide_eq_true (by omega)
                    have x39 : (((s[a1]'hlt).toNat : Int) == 39) = (c == 39) := by rw [← hc, Bool.eq_iff_iff]; simp [← UInt8.toNat_inj]; omega
                    have x104 : (((s[a1]'hlt).toNat : Int) == 104) = (c == 104) := by rw [← hc, Bool.eq_iff_iff]; simp [← UInt8.toNat_inj]; omega
                    have x72 : (((s[a1]'hlt).toNat : Int) == 72) = (c == 72) := by rw [← hc, Bool.eq_iff_iff]; simp [← UInt8.toNat_inj]; omega
                    have hmk : isMark c = ((c == 39) || (c == 104) || (c == 72)) := rfl
                    have HMK := Lib.hid hmk
                    clear hat hc hmk
                    cases y39 : (c == 39) with
                    | true =>
                      rw [y39] at x39 HMK
                      clear y39 x104 x72
                      go_wp2_with fail
                      rw [HR18.out]
                      exact ⟨rfl, rfl, _, Lib.hid (fun _ => ⟨c, HAT1.out, by rw [HMK.out]; rfl⟩), Lib.hid (fun h => by cases h), _, _, _, _, _, _, _, _, _, _, _, _, _, _, _, _, _, _, _, _, _, _, rfl⟩
                    | false =>
                      rw [y39] at x39 HMK
                      clear y39
                      cases y104 : (c == 104) with
                      | true =>
                        rw [y104] at x104 HMK
                        clear y104 x72
                        go_wp2_with fail
                        rw [HR18.out]
                        exact ⟨rfl, rfl, _, Lib.hid (fun _ => ⟨c, HAT1.out, by rw [HMK.out]; rfl⟩), Lib.hid (fun h => by cases h), _, _, _, _, _, _, _, _, _, _, _, _, _, _, _, _, _, _, _, _, _, _, rfl⟩
                      | false =>
                        rw [y104] at x104 HMK
                        clear y104
                        cases y72 : (c == 72) with
                        | true =>
                          rw [y72] at x72 HMK
                          clear y72
                          go_wp2_with fail
                          rw [HR18.out]
                          exact ⟨rfl, rfl, _, Lib.hid (fun _ => ⟨c, HAT1.out, by rw [HMK.out]; rfl⟩), Lib.hid (fun h => by cases h), _, _, _, _, _, _, _, _, _, _, _, _, _, _, _, _, _, _, _, _, _, _, rfl⟩
                        | false =>
                          rw [y72] at x72 HMK
                          clear y72
                          go_wp2_with fail
                          rw [HR18.out]
                          exact ⟨rfl, rfl, _, Lib.hid (fun h => by cases h), Lib.hid (fun _ d hd => by rw [HAT1.out] at hd; obtain rfl := Option.some.inj hd; rw [HMK.out]; rfl), _, _, _, _, _, _, _, _, _, _, _, _, _, _, _, _, _, _, _, _, _, _, rfl⟩
                  · have g1 : decide ((a1 : Int) < (s.size : Int)) = false := decide_eq_false (by omega)
                    have HNO := Lib.hid (show L[a1]? = none from List.getElem?_eq_none (by rw [HLL.out]; omega))
                    go_wp2_with fail
                    rw [HR18.out]
                    exact ⟨rfl, rfl, _, Lib.hid (fun h => by cases h), Lib.hid (fun _ d hd => by rw [HNO.out] at hd; cases hd), _, _, _, _, _, _, _, _, _, _, _, _, _, _, _, _, _, _, _, _, _, _, rfl⟩
                · rintro e a' W3 h
                  rw [HR18.out] at h
                  obtain ⟨rfl, rfl, hd, HM1, HM0, g70, g71, g72, g73, g74, g75, g76, g77, g78, g79, g80, g81, g82, g83, g84, g85, g86, g87, g88, g89, g90, g91, rfl⟩ := h
                  clear HR18
                  have HS := Lib.hid (satN_says D HD.out)
                  obtain ⟨i0, hi, hz0, hz1, hz2⟩ := info_parts ints_info
                  cases hd
                  · obtain ⟨m, hm⟩ : ∃ m : List UInt8, m = [] := ⟨_, rfl⟩
                    have HML := Lib.hid (show ∀ c ∈ m, isMark c = true by rw [hm]; simp)
                    obtain ⟨a2, ha2⟩ : ∃ a2 : Nat, a2 = a1 := ⟨_, rfl⟩
                    have HSP2 := Lib.hid (show L.drop a = D ++ m ++ L.drop a2 by rw [hm, ha2, List.append_nil]; exact HSP.out)
                    have HST := Lib.hid (show stepE (D ++ m) = (if valB D < 2147483648 then 0 else 2) ∧ (valB D < 2147483648 → stepN (D ++ m) = 0 + valB D) by rw [hm, List.append_nil]; exact ⟨by rw [(step_plain HD.out).1, ← HOKD.out]; rfl, fun hv => by rw [Nat.zero_add]; exact (step_plain HD.out).2 HOKD.out.symm hv⟩)
                    have HODD := Lib.hid (show ∀ c, L[a2]? = some c → c ≠ 47 → ∃ p ps, partsOf (L.drop a) = p :: ps ∧ stepE p = 3 from fun c hc h4 => by rw [ha2] at hc; rw [HSP.out, drop_at hc]; exact scan_odd HD.out (HT.out c hc) h4 (HM0.out rfl c hc))
                    have hl2 : a2 ≤ s.size := by omega
                    have hx2 : xs.length ≤ a2 := by have := HA1.out; omega
                    have hinc : a < a2 := by have := HA1.out; have hk : 0 < k := Nat.pos_of_ne_zero (fun hk => by have h5 := HKN.out.1 hk; rw [← HOKD.out] at h5; cases h5); omega
                    subst ha2
                    clear hm
                    have HINC := Lib.hid hinc
                    clear HM1 HM0 hinc
                    by_cases hv : n < 2147483648
                    · obtain ⟨r, hr⟩ : ∃ r : Nat, r = n % 2147483648 := ⟨_, rfl⟩
                      have d26 : decide ((2147483648 : Int) ≤ (n : Int)) = false := decide_eq_false (by omega)
                      have hvb : valB D < 2147483648 := HS.out.1.1 (by rw [← HN.out]; exact hv)
                      have hrv : r = valB D := by rw [hr, Nat.mod_eq_of_lt hv, HN.out]; exact HS.out.2.1 hvb
                      have HSE := Lib.hid (show stepE (D ++ m) = if false then 2 else 0 by rw [HST.out.1, if_pos hvb]; rfl)
                      have e1 : (n : Int).tmod 2147483648 = (r : Int) := by rw [Int.tmod_eq_emod_of_nonneg (by omega)]; omega
                      have e1b : (n : Int) % 2147483648 = (r : Int) := by omega
                      have hr2 : r < 2147483648 := by rw [hr]; exact Nat.mod_lt _ (by omega)
                      have e2 : IntKind.u32.wrap (r : Int) = (r : Int) := by rw [IntKind.wrap_u32]; omega
                      have e2b : IntKind.u64.wrap (r : Int) = (r : Int) := by rw [IntKind.wrap_u64]; omega
                      have HDN2 := Lib.hid (HDN.out.next (x := (r : Int)) (g' := g) HSE.out (by simp) (fun _ => by rw [HST.out.2 hvb, hrv]; omega))
                      clear hrv
                      clear hvb hv hr
                      have m1 : Ints .u32 (W3.alloc (.cells #[.int .u32 ((r : Int))] 27)) (W3.heap.size + 1) (.slice (some ⟨W3.heap.size, 0, none⟩) 1 1) [(r : Int)] := Ints.made .u32 W3 27 [(r : Int)] [_] rfl (by unfold maxLen; simp)
                      have HM1 := Lib.hid m1
                      have HO1 := Lib.hid (HOW.out.alloc (.cells #[.int .u32 ((r : Int))] 27))
                      have hWs : W.heap.size ≤ W3.heap.size := HBEL.out.size
                      have HB1 := Lib.hid (HBEL.out.alloc hWs (.cells #[.int .u32 ((r : Int))] 27))
                      clear m1
                      go_upto_region 27 with (at_builtin; refine wpList_append_ints rfl (.tmp 103) (.tmp 105) 41 rfl W.heap.size 27 i0 .u32 4 Tryd.underlying41 hi hz0 hz1 hz2 _ xs.length _ rfl HO1.out (W3.heap.size + 1) _ [(r : Int)] rfl HM1.out (by unfold maxLen; simp; omega) (by simp; omega) (by rw [World.size_alloc]; omega) ?_; intro v1 w1 hown1 hgr1 hob1; obtain ⟨A1, c1, rfl⟩ := own_form hown1; have HOW1 := Lib.hid hown1; have HBW1 := Lib.hid (HB1.out.grown hgr1 HB1.out.size (fun j hj => (HO1.out.lt j hj).1)); clear hown1 hgr1 hob1)
                      have HOW2 := Lib.hid (show w1.ownsRow W.heap.size 27 1 (.slice A1 (xs.length + 1) c1) (xs ++ [(r : Int)]).length ((xs ++ [(r : Int)]).map (Value.int .u32)) by rw [List.map_append, List.length_append]; exact HOW1.out)
                      clear HOW1 HM1 HO1 HB1 HOW HBEL HSE HST
                      by_cases hend : a2 = s.size
                      · have hQ : partsOf (L.drop a) = [D ++ m] := by rw [HSP2.out, List.drop_of_length_le (by rw [HLL.out]; omega), List.append_nil]; exact parts_end HD.out HML.out
                        have PD0 := parse_done HR.out HP.out hQ HDN2.out
                        have gE : ((a2 : Int) == (s.size : Int)) = true := by simp; omega
                        cases g with
                        | true =>
                          have PD := Lib.hid (show parseP L = ([], 2) by rw [PD0, if_pos (Or.inl rfl)])
                          clear PD0 hQ hend
                          go_wp2_with fail
                          go_ret2
                          exact ⟨_, by rw [PD.out]; rfl, by rw [PD.out]; exact World.ownsRow_nil _ _ _ _, HBW1.out⟩
                        | false =>
                          by_cases h5 : 255 < xs.length + 1
                          · have g5 : decide ((255 : Int) < (xs.length : Int) + 1) = true := decide_eq_true (by omega)
                            have g6 : decide ((255 : Int) < ((xs.length + 1 : Nat) : Int)) = true := decide_eq_true (by omega)
                            have PD := Lib.hid (show parseP L = ([], 2) by rw [PD0, if_pos (Or.inr (by simpa using h5))])
                            clear PD0 hQ hend
                            go_wp2_with fail
                            go_ret2
                            exact ⟨_, by rw [PD.out]; rfl, by rw [PD.out]; exact World.ownsRow_nil _ _ _ _, HBW1.out⟩
                          · have g5 : decide ((255 : Int) < (xs.length : Int) + 1) = false := decide_eq_false (by omega)
                            have g6 : decide ((255 : Int) < ((xs.length + 1 : Nat) : Int)) = false := decide_eq_false (by omega)
                            have PD := Lib.hid (show parseP L = (xs ++ [(r : Int)], 0) by rw [PD0, if_neg (fun h => h.elim (fun h => by cases h) (fun h => h5 (by simpa using h)))])
                            clear PD0 hQ hend
                            go_wp2_with fail
                            go_ret2
                            exact ⟨_, by rw [PD.out]; rfl, by rw [PD.out]; exact HOW2.out, HBW1.out⟩
                      · have hlt2 : a2 < s.size := by omega
                        have gE : ((a2 : Int) == (s.size : Int)) = false := by simp; omega
                        have hat2 : L[a2]? = some (s[a2]'hlt2) := by rw [HL.out]; exact List.getElem?_eq_getElem (by rw [blen]; exact hlt2)
                        obtain ⟨c2, hc2⟩ : ∃ c, c = s[a2]'hlt2 := ⟨_, rfl⟩
                        rw [← hc2] at hat2
                        have x47 : (((s[a2]'hlt2).toNat : Int) == 47) = (c2 == 47) := by rw [← hc2, Bool.eq_iff_iff]; simp [← UInt8.toNat_inj]; omega
                        have HAT2 := Lib.hid hat2
                        clear hat2 hc2 hend
                        by_cases y47 : c2 = 47
                        · subst y47
                          have HPN := Lib.hid (show partsOf (trimM L) = (dn ++ [D ++ m]) ++ partsOf (L.drop (a2 + 1)) by rw [HP.out, HSP2.out, drop_at HAT2.out, parts_go HD.out HML.out]; simp)
                          have x48 : (((s[a2]'hlt2).toNat : Int) == 47) = true := x47
                          clear x47
                          go_wp2_with fail
                          go_roundw
                          case rel => exact ⟨a2 + 1, g, dn ++ [D ++ m], xs ++ [(r : Int)], by omega, by go_num, rfl, HPN, HDN2, by simp; omega, by first | exact HOW2.out | (rw [List.length_append]; exact HOW2.out), HBW1.out⟩
                          case measure => simp [intOf]; have := HINC.out; omega
                        · have x48 : (((s[a2]'hlt2).toNat : Int) == 47) = false := by rw [x47]; simpa using y47
                          have BAD := Lib.hid (parse_bad HR.out HP.out (HODD.out c2 HAT2.out y47))
                          clear x47 y47
                          go_wp2_with fail
                          go_ret2
                          exact ⟨_, by rw [BAD.out]; rfl, by rw [BAD.out]; exact World.ownsRow_nil _ _ _ _, HBW1.out⟩
                    · obtain ⟨r, hr⟩ : ∃ r : Nat, r = n % 2147483648 := ⟨_, rfl⟩
                      have d26 : decide ((2147483648 : Int) ≤ (n : Int)) = true := decide_eq_true (by omega)
                      have hvb : ¬ valB D < 2147483648 := fun hc => hv (by rw [HN.out]; exact HS.out.1.2 hc)
                      have HSE := Lib.hid (show stepE (D ++ m) = if true then 2 else 0 by rw [HST.out.1, if_neg hvb]; rfl)
                      have e1 : (n : Int).tmod 2147483648 = (r : Int) := by rw [Int.tmod_eq_emod_of_nonneg (by omega)]; omega
                      have e1b : (n : Int) % 2147483648 = (r : Int) := by omega
                      have hr2 : r < 2147483648 := by rw [hr]; exact Nat.mod_lt _ (by omega)
                      have e2 : IntKind.u32.wrap (r : Int) = (r : Int) := by rw [IntKind.wrap_u32]; omega
                      have e2b : IntKind.u64.wrap (r : Int) = (r : Int) := by rw [IntKind.wrap_u64]; omega
                      have HDN2 := Lib.hid (HDN.out.next (x := (r : Int)) (g' := true) HSE.out (by simp) (fun h => by cases h))
                      clear hvb hv hr
                      have m1 : Ints .u32 (W3.alloc (.cells #[.int .u32 ((r : Int))] 27)) (W3.heap.size + 1) (.slice (some ⟨W3.heap.size, 0, none⟩) 1 1) [(r : Int)] := Ints.made .u32 W3 27 [(r : Int)] [_] rfl (by unfold maxLen; simp)
                      have HM1 := Lib.hid m1
                      have HO1 := Lib.hid (HOW.out.alloc (.cells #[.int .u32 ((r : Int))] 27))
                      have hWs : W.heap.size ≤ W3.heap.size := HBEL.out.size
                      have HB1 := Lib.hid (HBEL.out.alloc hWs (.cells #[.int .u32 ((r : Int))] 27))
                      clear m1
                      go_upto_region 27 with (at_builtin; refine wpList_append_ints rfl (.tmp 103) (.tmp 105) 41 rfl W.heap.size 27 i0 .u32 4 Tryd.underlying41 hi hz0 hz1 hz2 _ xs.length _ rfl HO1.out (W3.heap.size + 1) _ [(r : Int)] rfl HM1.out (by unfold maxLen; simp; omega) (by simp; omega) (by rw [World.size_alloc]; omega) ?_; intro v1 w1 hown1 hgr1 hob1; obtain ⟨A1, c1, rfl⟩ := own_form hown1; have HOW1 := Lib.hid hown1; have HBW1 := Lib.hid (HB1.out.grown hgr1 HB1.out.size (fun j hj => (HO1.out.lt j hj).1)); clear hown1 hgr1 hob1)
                      have HOW2 := Lib.hid (show w1.ownsRow W.heap.size 27 1 (.slice A1 (xs.length + 1) c1) (xs ++ [(r : Int)]).length ((xs ++ [(r : Int)]).map (Value.int .u32)) by rw [List.map_append, List.length_append]; exact HOW1.out)
                      clear HOW1 HM1 HO1 HB1 HOW HBEL HSE HST
                      by_cases hend : a2 = s.size
                      · have hQ : partsOf (L.drop a) = [D ++ m] := by rw [HSP2.out, List.drop_of_length_le (by rw [HLL.out]; omega), List.append_nil]; exact parts_end HD.out HML.out
                        have PD0 := parse_done HR.out HP.out hQ HDN2.out
                        have gE : ((a2 : Int) == (s.size : Int)) = true := by simp; omega
                        have PD := Lib.hid (show parseP L = ([], 2) by rw [PD0, if_pos (Or.inl rfl)])
                        clear PD0 hQ hend
                        go_wp2_with fail
                        go_ret2
                        exact ⟨_, by rw [PD.out]; rfl, by rw [PD.out]; exact World.ownsRow_nil _ _ _ _, HBW1.out⟩
                      · have hlt2 : a2 < s.size := by omega
                        have gE : ((a2 : Int) == (s.size : Int)) = false := by simp; omega
                        have hat2 : L[a2]? = some (s[a2]'hlt2) := by rw [HL.out]; exact List.getElem?_eq_getElem (by rw [blen]; exact hlt2)
                        obtain ⟨c2, hc2⟩ : ∃ c, c = s[a2]'hlt2 := ⟨_, rfl⟩
                        rw [← hc2] at hat2
                        have x47 : (((s[a2]'hlt2).toNat : Int) == 47) = (c2 == 47) := by rw [← hc2, Bool.eq_iff_iff]; simp [← UInt8.toNat_inj]; omega
                        have HAT2 := Lib.hid hat2
                        clear hat2 hc2 hend
                        by_cases y47 : c2 = 47
                        · subst y47
                          have HPN := Lib.hid (show partsOf (trimM L) = (dn ++ [D ++ m]) ++ partsOf (L.drop (a2 + 1)) by rw [HP.out, HSP2.out, drop_at HAT2.out, parts_go HD.out HML.out]; simp)
                          have x48 : (((s[a2]'hlt2).toNat : Int) == 47) = true := x47
                          clear x47
                          go_wp2_with fail
                          go_roundw
                          case rel => exact ⟨a2 + 1, true, dn ++ [D ++ m], xs ++ [(r : Int)], by omega, by go_num, rfl, HPN, HDN2, by simp; omega, by first | exact HOW2.out | (rw [List.length_append]; exact HOW2.out), HBW1.out⟩
                          case measure => simp [intOf]; have := HINC.out; omega
                        · have x48 : (((s[a2]'hlt2).toNat : Int) == 47) = false := by rw [x47]; simpa using y47
                          have BAD := Lib.hid (parse_bad HR.out HP.out (HODD.out c2 HAT2.out y47))
                          clear x47 y47
                          go_wp2_with fail
                          go_ret2
                          exact ⟨_, by rw [BAD.out]; rfl, by rw [BAD.out]; exact World.ownsRow_nil _ _ _ _, HBW1.out⟩
                  · obtain ⟨c, hc, hcm⟩ := HM1.out rfl
                    have hlt : a1 < s.size := by rw [← HLL.out]; exact (List.getElem?_eq_some_iff.1 hc).1
                    obtain ⟨m, hm⟩ : ∃ m : List UInt8, m = [c] := ⟨_, rfl⟩
                    have HML := Lib.hid (show ∀ c ∈ m, isMark c = true by rw [hm]; simpa using hcm)
                    obtain ⟨a2, ha2⟩ : ∃ a2 : Nat, a2 = a1 + 1 := ⟨_, rfl⟩
                    have ha2i : (a1 : Int) + 1 = (a2 : Int) := by omega
                    have HSP2 := Lib.hid (show L.drop a = D ++ m ++ L.drop a2 by rw [hm, ha2, HSP.out, drop_at hc]; simp)
                    have HST := Lib.hid (show stepE (D ++ m) = (if valB D < 2147483648 then 0 else 2) ∧ (valB D < 2147483648 → stepN (D ++ m) = 2147483648 + valB D) by rw [hm]; exact ⟨by rw [(step_mark HD.out hcm).1, ← HOKD.out]; rfl, fun hv => (step_mark HD.out hcm).2 HOKD.out.symm hv⟩)
                    have HODD := Lib.hid (show ∀ e, L[a2]? = some e → e ≠ 47 → ∃ p ps, partsOf (L.drop a) = p :: ps ∧ stepE p = 3 from fun e he h4 => by rw [ha2] at he; rw [HSP.out, drop_at hc, drop_at he]; exact scan_odd2 HD.out (HT.out c hc) hcm h4)
                    have hl2 : a2 ≤ s.size := by omega
                    have hx2 : xs.length ≤ a2 := by have := HA1.out; omega
                    have hinc : a < a2 := by have := HA1.out; omega
                    clear hc hcm hm ha2 hlt
                    have HINC := Lib.hid hinc
                    clear HM1 HM0 hinc
                    by_cases hv : n < 2147483648
                    · obtain ⟨r, hr⟩ : ∃ r : Nat, r = n % 2147483648 := ⟨_, rfl⟩
                      have d26 : decide ((2147483648 : Int) ≤ (n : Int)) = false := decide_eq_false (by omega)
                      have hvb : valB D < 2147483648 := HS.out.1.1 (by rw [← HN.out]; exact hv)
                      have hrv : r = valB D := by rw [hr, Nat.mod_eq_of_lt hv, HN.out]; exact HS.out.2.1 hvb
                      have HSE := Lib.hid (show stepE (D ++ m) = if false then 2 else 0 by rw [HST.out.1, if_pos hvb]; rfl)
                      have e1 : (n : Int).tmod 2147483648 = (r : Int) := by rw [Int.tmod_eq_emod_of_nonneg (by omega)]; omega
                      have e1b : (n : Int) % 2147483648 = (r : Int) := by omega
                      have hr2 : r < 2147483648 := by rw [hr]; exact Nat.mod_lt _ (by omega)
                      have e2 : IntKind.u32.wrap (r : Int) = (r : Int) := by rw [IntKind.wrap_u32]; omega
                      have e2b : IntKind.u64.wrap (r : Int) = (r : Int) := by rw [IntKind.wrap_u64]; omega
                      have e3 : IntKind.u32.wrap ((r : Int) + 2147483648) = (r : Int) + 2147483648 := by rw [IntKind.wrap_u32]; omega
                      have HDN2 := Lib.hid (HDN.out.next (x := (r : Int) + 2147483648) (g' := g) HSE.out (by simp) (fun _ => by rw [HST.out.2 hvb, hrv]; omega))
                      clear hrv
                      clear hvb hv hr
                      have m1 : Ints .u32 (W3.alloc (.cells #[.int .u32 ((r : Int) + 2147483648)] 27)) (W3.heap.size + 1) (.slice (some ⟨W3.heap.size, 0, none⟩) 1 1) [(r : Int) + 2147483648] := Ints.made .u32 W3 27 [(r : Int) + 2147483648] [_] rfl (by unfold maxLen; simp)
                      have HM1 := Lib.hid m1
                      have HO1 := Lib.hid (HOW.out.alloc (.cells #[.int .u32 ((r : Int) + 2147483648)] 27))
                      have hWs : W.heap.size ≤ W3.heap.size := HBEL.out.size
                      have HB1 := Lib.hid (HBEL.out.alloc hWs (.cells #[.int .u32 ((r : Int) + 2147483648)] 27))
                      clear m1
                      go_upto_region 27 with (at_builtin; refine wpList_append_ints rfl (.tmp 103) (.tmp 105) 41 rfl W.heap.size 27 i0 .u32 4 Tryd.underlying41 hi hz0 hz1 hz2 _ xs.length _ rfl HO1.out (W3.heap.size + 1) _ [(r : Int) + 2147483648] rfl HM1.out (by unfold maxLen; simp; omega) (by simp; omega) (by rw [World.size_alloc]; omega) ?_; intro v1 w1 hown1 hgr1 hob1; obtain ⟨A1, c1, rfl⟩ := own_form hown1; have HOW1 := Lib.hid hown1; have HBW1 := Lib.hid (HB1.out.grown hgr1 HB1.out.size (fun j hj => (HO1.out.lt j hj).1)); clear hown1 hgr1 hob1)
                      have HOW2 := Lib.hid (show w1.ownsRow W.heap.size 27 1 (.slice A1 (xs.length + 1) c1) (xs ++ [(r : Int) + 2147483648]).length ((xs ++ [(r : Int) + 2147483648]).map (Value.int .u32)) by rw [List.map_append, List.length_append]; exact HOW1.out)
                      clear HOW1 HM1 HO1 HB1 HOW HBEL HSE HST
                      by_cases hend : a2 = s.size
                      · have hQ : partsOf (L.drop a) = [D ++ m] := by rw [HSP2.out, List.drop_of_length_le (by rw [HLL.out]; omega), List.append_nil]; exact parts_end HD.out HML.out
                        have PD0 := parse_done HR.out HP.out hQ HDN2.out
                        have gE : ((a2 : Int) == (s.size : Int)) = true := by simp; omega
                        cases g with
                        | true =>
                          have PD := Lib.hid (show parseP L = ([], 2) by rw [PD0, if_pos (Or.inl rfl)])
                          clear PD0 hQ hend
                          go_wp2_with fail
                          go_ret2
                          exact ⟨_, by rw [PD.out]; rfl, by rw [PD.out]; exact World.ownsRow_nil _ _ _ _, HBW1.out⟩
                        | false =>
                          by_cases h5 : 255 < xs.length + 1
                          · have g5 : decide ((255 : Int) < (xs.length : Int) + 1) = true := decide_eq_true (by omega)
                            have g6 : decide ((255 : Int) < ((xs.length + 1 : Nat) : Int)) = true := decide_eq_true (by omega)
                            have PD := Lib.hid (show parseP L = ([], 2) by rw [PD0, if_pos (Or.inr (by simpa using h5))])
                            clear PD0 hQ hend
                            go_wp2_with fail
                            go_ret2
                            exact ⟨_, by rw [PD.out]; rfl, by rw [PD.out]; exact World.ownsRow_nil _ _ _ _, HBW1.out⟩
                          · have g5 : decide ((255 : Int) < (xs.length : Int) + 1) = false := decide_eq_false (by omega)
                            have g6 : decide ((255 : Int) < ((xs.length + 1 : Nat) : Int)) = false := decide_eq_false (by omega)
                            have PD := Lib.hid (show parseP L = (xs ++ [(r : Int) + 2147483648], 0) by rw [PD0, if_neg (fun h => h.elim (fun h => by cases h) (fun h => h5 (by simpa using h)))])
                            clear PD0 hQ hend
                            go_wp2_with fail
                            go_ret2
                            exact ⟨_, by rw [PD.out]; rfl, by rw [PD.out]; exact HOW2.out, HBW1.out⟩
                      · have hlt2 : a2 < s.size := by omega
                        have gE : ((a2 : Int) == (s.size : Int)) = false := by simp; omega
                        have hat2 : L[a2]? = some (s[a2]'hlt2) := by rw [HL.out]; exact List.getElem?_eq_getElem (by rw [blen]; exact hlt2)
                        obtain ⟨c2, hc2⟩ : ∃ c, c = s[a2]'hlt2 := ⟨_, rfl⟩
                        rw [← hc2] at hat2
                        have x47 : (((s[a2]'hlt2).toNat : Int) == 47) = (c2 == 47) := by rw [← hc2, Bool.eq_iff_iff]; simp [← UInt8.toNat_inj]; omega
                        have HAT2 := Lib.hid hat2
                        clear hat2 hc2 hend
                        by_cases y47 : c2 = 47
                        · subst y47
                          have HPN := Lib.hid (show partsOf (trimM L) = (dn ++ [D ++ m]) ++ partsOf (L.drop (a2 + 1)) by rw [HP.out, HSP2.out, drop_at HAT2.out, parts_go HD.out HML.out]; simp)
                          have x48 : (((s[a2]'hlt2).toNat : Int) == 47) = true := x47
                          clear x47
                          go_wp2_with fail
                          go_roundw
                          case rel => exact ⟨a2 + 1, g, dn ++ [D ++ m], xs ++ [(r : Int) + 2147483648], by omega, by go_num, rfl, HPN, HDN2, by simp; omega, by first | exact HOW2.out | (rw [List.length_append]; exact HOW2.out), HBW1.out⟩
                          case measure => simp [intOf]; have := HINC.out; omega
                        · have x48 : (((s[a2]'hlt2).toNat : Int) == 47) = false := by rw [x47]; simpa using y47
                          have BAD := Lib.hid (parse_bad HR.out HP.out (HODD.out c2 HAT2.out y47))
                          clear x47 y47
                          go_wp2_with fail
                          go_ret2
                          exact ⟨_, by rw [BAD.out]; rfl, by rw [BAD.out]; exact World.ownsRow_nil _ _ _ _, HBW1.out⟩
                    · obtain ⟨r, hr⟩ : ∃ r : Nat, r = n % 2147483648 := ⟨_, rfl⟩
                      have d26 : decide ((2147483648 : Int) ≤ (n : Int)) = true := decide_eq_true (by omega)
                      have hvb : ¬ valB D < 2147483648 := fun hc => hv (by rw [HN.out]; exact HS.out.1.2 hc)
                      have HSE := Lib.hid (show stepE (D ++ m) = if true then 2 else 0 by rw [HST.out.1, if_neg hvb]; rfl)
                      have e1 : (n : Int).tmod 2147483648 = (r : Int) := by rw [Int.tmod_eq_emod_of_nonneg (by omega)]; omega
                      have e1b : (n : Int) % 2147483648 = (r : Int) := by omega
                      have hr2 : r < 2147483648 := by rw [hr]; exact Nat.mod_lt _ (by omega)
                      have e2 : IntKind.u32.wrap (r : Int) = (r : Int) := by rw [IntKind.wrap_u32]; omega
                      have e2b : IntKind.u64.wrap (r : Int) = (r : Int) := by rw [IntKind.wrap_u64]; omega
                      have e3 : IntKind.u32.wrap ((r : Int) + 2147483648) = (r : Int) + 2147483648 := by rw [IntKind.wrap_u32]; omega
                      have HDN2 := Lib.hid (HDN.out.next (x := (r : Int) + 2147483648) (g' := true) HSE.out (by simp) (fun h => by cases h))
                      clear hvb hv hr
                      have m1 : Ints .u32 (W3.alloc (.cells #[.int .u32 ((r : Int) + 2147483648)] 27)) (W3.heap.size + 1) (.slice (some ⟨W3.heap.size, 0, none⟩) 1 1) [(r : Int) + 2147483648] := Ints.made .u32 W3 27 [(r : Int) + 2147483648] [_] rfl (by unfold maxLen; simp)
                      have HM1 := Lib.hid m1
                      have HO1 := Lib.hid (HOW.out.alloc (.cells #[.int .u32 ((r : Int) + 2147483648)] 27))
                      have hWs : W.heap.size ≤ W3.heap.size := HBEL.out.size
                      have HB1 := Lib.hid (HBEL.out.alloc hWs (.cells #[.int .u32 ((r : Int) + 2147483648)] 27))
                      clear m1
                      go_upto_region 27 with (at_builtin; refine wpList_append_ints rfl (.tmp 103) (.tmp 105) 41 rfl W.heap.size 27 i0 .u32 4 Tryd.underlying41 hi hz0 hz1 hz2 _ xs.length _ rfl HO1.out (W3.heap.size + 1) _ [(r : Int) + 2147483648] rfl HM1.out (by unfold maxLen; simp; omega) (by simp; omega) (by rw [World.size_alloc]; omega) ?_; intro v1 w1 hown1 hgr1 hob1; obtain ⟨A1, c1, rfl⟩ := own_form hown1; have HOW1 := Lib.hid hown1; have HBW1 := Lib.hid (HB1.out.grown hgr1 HB1.out.size (fun j hj => (HO1.out.lt j hj).1)); clear hown1 hgr1 hob1)
                      have HOW2 := Lib.hid (show w1.ownsRow W.heap.size 27 1 (.slice A1 (xs.length + 1) c1) (xs ++ [(r : Int) + 2147483648]).length ((xs ++ [(r : Int) + 2147483648]).map (Value.int .u32)) by rw [List.map_append, List.length_append]; exact HOW1.out)
                      clear HOW1 HM1 HO1 HB1 HOW HBEL HSE HST
                      by_cases hend : a2 = s.size
                      · have hQ : partsOf (L.drop a) = [D ++ m] := by rw [HSP2.out, List.drop_of_length_le (by rw [HLL.out]; omega), List.append_nil]; exact parts_end HD.out HML.out
                        have PD0 := parse_done HR.out HP.out hQ HDN2.out
                        have gE : ((a2 : Int) == (s.size : Int)) = true := by simp; omega
                        have PD := Lib.hid (show parseP L = ([], 2) by rw [PD0, if_pos (Or.inl rfl)])
                        clear PD0 hQ hend
                        go_wp2_with fail
                        go_ret2
                        exact ⟨_, by rw [PD.out]; rfl, by rw [PD.out]; exact World.ownsRow_nil _ _ _ _, HBW1.out⟩
                      · have hlt2 : a2 < s.size := by omega
                        have gE : ((a2 : Int) == (s.size : Int)) = false := by simp; omega
                        have hat2 : L[a2]? = some (s[a2]'hlt2) := by rw [HL.out]; exact List.getElem?_eq_getElem (by rw [blen]; exact hlt2)
                        obtain ⟨c2, hc2⟩ : ∃ c, c = s[a2]'hlt2 := ⟨_, rfl⟩
                        rw [← hc2] at hat2
                        have x47 : (((s[a2]'hlt2).toNat : Int) == 47) = (c2 == 47) := by rw [← hc2, Bool.eq_iff_iff]; simp [← UInt8.toNat_inj]; omega
                        have HAT2 := Lib.hid hat2
                        clear hat2 hc2 hend
                        by_cases y47 : c2 = 47
                        · subst y47
                          have HPN := Lib.hid (show partsOf (trimM L) = (dn ++ [D ++ m]) ++ partsOf (L.drop (a2 + 1)) by rw [HP.out, HSP2.out, drop_at HAT2.out, parts_go HD.out HML.out]; simp)
                          have x48 : (((s[a2]'hlt2).toNat : Int) == 47) = true := x47
                          clear x47
                          go_wp2_with fail
                          go_roundw
                          case rel => exact ⟨a2 + 1, true, dn ++ [D ++ m], xs ++ [(r : Int) + 2147483648], by omega, by go_num, rfl, HPN, HDN2, by simp; omega, by first | exact HOW2.out | (rw [List.length_append]; exact HOW2.out), HBW1.out⟩
                          case measure => simp [intOf]; have := HINC.out; omega
                        · have x48 : (((s[a2]'hlt2).toNat : Int) == 47) = false := by rw [x47]; simpa using y47
                          have BAD := Lib.hid (parse_bad HR.out HP.out (HODD.out c2 HAT2.out y47))
                          clear x47 y47
                          go_wp2_with fail
                          go_ret2
                          exact ⟨_, by rw [BAD.out]; rfl, by rw [BAD.out]; exact World.ownsRow_nil _ _ _ _, HBW1.out⟩
end Go.Proofs.YtfkpdbmgiefnfaaDoor.Hk
