/-
  text.Regroup. Conditions: sizes within the reach.
-/
import Derived.Test.YtpaafkhlelljcaaDoorGrpPure
import Derived.Laws.BitsLemmas
namespace Go.Proofs.YtpaafkhlelljcaaDoor
open Go.RowKit

theorem width_yes (n : Int) (w : World) (h0 : 1 ≤ n) (h1 : n ≤ 8) :
    Calls Tryd.prog 47 #[.int .i64 n] w fun e w' => e = .returned (.bool true) ∧ w = w' := by
  have d0 : decide (1 ≤ n) = true := decide_eq_true h0
  have d1 : decide (n ≤ 8) = true := decide_eq_true h1
  go_enter Tryd.func47, Tryd.ntmps47
  go_wp2
  go_ret
  exact ⟨rfl, rfl⟩
theorem width_no (n : Int) (w : World) (h : n < 1 ∨ 8 < n) :
    Calls Tryd.prog 47 #[.int .i64 n] w fun e w' => e = .returned (.bool false) ∧ w = w' := by
  by_cases h0 : 1 ≤ n
  · have d0 : decide (1 ≤ n) = true := decide_eq_true h0
    have d1 : decide (n ≤ 8) = false := decide_eq_false (by omega)
    go_enter Tryd.func47, Tryd.ntmps47
    go_wp2
    go_ret
    exact ⟨rfl, rfl⟩
  · have d0 : decide (1 ≤ n) = false := decide_eq_false h0
    go_enter Tryd.func47, Tryd.ntmps47
    go_wp2
    go_ret
    exact ⟨rfl, rfl⟩

/-- What regrouping answers. -/
def RegPost (w : World) (r : Int × List UInt8) (e : Ending) (w' : World) : Prop :=
  ∃ v, e = .returned (.tuple #[v, .int .i64 r.1]) ∧ OwnB w' w.heap.size v r.2 ∧ Below w.heap.size w w'

/-- Behind the first bits l: q values, and hv bits left, which are rr. -/
structure Left (b : Nat) (l : List Nat) (q hv rr : Nat) : Prop where
  len : b * q + hv = l.length
  val : rr = valN (l.drop (b * q))
theorem Left.rest {b q hv rr : Nat} {l : List Nat} (h : Left b l q hv rr) : (l.drop (b * q)).length = hv := by rw [List.length_drop]; have := h.len; omega
theorem Left.lt {b q hv rr : Nat} {l : List Nat} (h : Left b l q hv rr) (hb : Bin l) : rr < 2 ^ hv := by
  have := valN_lt (l := l.drop (b * q)) (fun x hx => hb x (List.mem_of_mem_drop hx))
  rw [h.rest] at this
  rw [h.val]; exact this
theorem Left.more {b q hv rr a v : Nat} {l : List Nat} (h : Left b l q hv rr) (hv2 : v < 2 ^ a) : Left b (l ++ bitsV a v) q (hv + a) (rr * 2 ^ a + v) := by
  refine ⟨by rw [List.length_append, bitsV_length]; have := h.len; omega, ?_⟩
  rw [List.drop_append_of_le_length (by have := h.len; omega), valN_append, bitsV_length, bitsV_val _ _ hv2, ← h.val]
theorem Left.less {b q hv rr : Nat} {l : List Nat} (h : Left b l q hv rr) (hb : Bin l) (hle : b ≤ hv) :
    Left b l (q + 1) (hv - b) (rr % 2 ^ (hv - b)) ∧ outsN b l (q + 1) = outsN b l q ++ [b8 ((rr / 2 ^ (hv - b) : Nat) : Int)] ∧ rr / 2 ^ (hv - b) < 2 ^ b := by
  have hbin : Bin (l.drop (b * q)) := fun x hx => hb x (List.mem_of_mem_drop hx)
  obtain ⟨h1, h2⟩ := split_left (t := b) hbin
  rw [h.rest, ← h.val] at h1 h2
  have hd : (l.drop (b * q)).drop b = l.drop (b * (q + 1)) := by rw [List.drop_drop]; congr 1
  refine ⟨⟨by rw [Nat.mul_add, Nat.mul_one]; have := h.len; omega, by rw [h2, hd]⟩, by rw [outsN_succ, h1], ?_⟩
  rw [h1]
  have := valN_lt (l := (l.drop (b * q)).take b) (fun x hx => hbin x (List.mem_of_mem_take hx))
  refine Nat.lt_of_lt_of_le this (Nat.pow_le_pow_right (by omega) (List.length_take_le _ _))

theorem regS_eval {a b q hv rr : Nat} {ds : List UInt8} (ha0 : 1 ≤ a) (ha1 : a ≤ 8) (hb0 : 1 ≤ b) (hb1 : b ≤ 8) (hd : ∀ d ∈ ds, d.toNat < 2 ^ a) (h : Left b (bitsAll a ds) q hv rr) (hlt : hv < b) (pad : Bool) :
    regS a b pad ds = if pad then (0, if 0 < hv then outsN b (bitsAll a ds) q ++ [b8 ((rr * 2 ^ (b - hv) : Nat) : Int)] else outsN b (bitsAll a ds) q) else if a ≤ hv ∨ rr ≠ 0 then (3, []) else (0, outsN b (bitsAll a ds) q) := by
  have e1 : (a : Int).toNat = a := Int.toNat_natCast _
  have e2 : (b : Int).toNat = b := Int.toNat_natCast _
  have hq : (bitsAll a ds).length / b = q := by
    rw [← h.len, Nat.mul_add_div (by omega), Nat.div_eq_of_lt hlt, Nat.add_zero]
  have hnb : ¬ ∃ d ∈ ds, 2 ^ a ≤ d.toNat := fun ⟨d, h1, h2⟩ => by have := hd d h1; omega
  unfold regS
  rw [if_neg (by omega), e1, e2, if_neg hnb]
  simp only [hq, h.rest]
  rw [← h.val, valN_append, valN_zeros, List.length_replicate, ← h.val, Nat.add_zero]
theorem regS_bad {a b : Nat} {ds : List UInt8} (ha0 : 1 ≤ a) (ha1 : a ≤ 8) (hb0 : 1 ≤ b) (hb1 : b ≤ 8) (hd : ∃ d ∈ ds, 2 ^ a ≤ d.toNat) (pad : Bool) : regS a b pad ds = (3, []) := by
  have e1 : (a : Int).toNat = a := Int.toNat_natCast _
  unfold regS
  rw [if_neg (by omega), e1, if_pos hd]
theorem regS_out {f t : Int} {ds : List UInt8} (h : f < 1 ∨ 8 < f ∨ t < 1 ∨ 8 < t) (pad : Bool) : regS f t pad ds = (1, []) := by
  unfold regS
  rw [if_pos h]
theorem pow_8 {a : Nat} (h : a ≤ 8) : (2 : Nat) ^ a ≤ 256 := Nat.pow_le_pow_right (n := 2) (by omega) h

set_option maxRecDepth 100000 in
set_option maxHeartbeats 6400000 in
theorem regroup_good (B : Nat) (x : Value) (ds : List UInt8) (a b : Nat) (pad : Bool) (w : World) (hx : Byt w B x ds) (hB : B ≤ w.heap.size) (hl : ds.length ≤ 20000) (ha0 : 1 ≤ a) (ha1 : a ≤ 8) (hb0 : 1 ≤ b) (hb1 : b ≤ 8) :
    Calls Tryd.prog 26 #[x, .int .i64 a, .int .i64 b, .bool pad] w (RegPost w (regS a b pad ds)) := by
  obtain ⟨i0, hi, hz0, hz1, hz2⟩ := info_parts info_u8
  obtain ⟨A, c, hxf⟩ := hx.form
  subst hxf
  have hX := Lib.hid hx
  have W1 := Lib.hid (fun W => width_yes (a : Int) W (by omega) (by omega))
  have W2 := Lib.hid (fun W => width_yes (b : Int) W (by omega) (by omega))
  obtain ⟨p, hp⟩ : ∃ p, p = ds.length * a := ⟨_, rfl⟩
  have hpb : p ≤ 160000 := by rw [hp]; exact Nat.mul_le_mul hl ha1
  have e1 : (ds.length : Int) * (a : Int) = (p : Int) := by rw [hp]; simp
  obtain ⟨k, hk⟩ : ∃ k, k = (p + b - 1) / b := ⟨_, rfl⟩
  have hkb : k ≤ 160008 := by rw [hk]; exact Nat.le_trans (Nat.div_le_self _ _) (by omega)
  have e2 : ((p : Int) + (b : Int) - 1) / (b : Int) = (k : Int) := by
    rw [hk]
    have : ((p + b - 1 : Nat) : Int) = (p : Int) + (b : Int) - 1 := by omega
    rw [Int.natCast_ediv, this]
  have e3 : ¬ ((b : Int) = 0) := by omega
  obtain ⟨w0, hmk, hown0, hg0⟩ := run_make_own (P := Tryd.prog) w w.heap.size 22 5 i0 (.int .u8 0) 1 slice_u8 hi hz0 hz1 .i64 .i64 k (by rw [hz2]; omega) (by unfold maxLen; omega) (Nat.le_refl _)
  have hb0w : Below w.heap.size w w0 := (Below.refl _ _).grown hg0 (Nat.le_refl _) (fun k hk => by cases hk)
  have HB0 := Lib.hid hb0w
  have HO0 := Lib.hid hown0
  have HR := Lib.hid (fun q hv rr hd h hlt => regS_eval (a := a) (b := b) (q := q) (hv := hv) (rr := rr) (ds := ds) ha0 ha1 hb0 hb1 hd h hlt pad)
  have HRB := Lib.hid (fun hd => regS_bad (a := a) (b := b) (ds := ds) ha0 ha1 hb0 hb1 hd pad)
  have hpa := pow_8 ha1
  have hpb2 := pow_8 hb1
  have hpa0 : 1 ≤ 2 ^ a := Nat.one_le_two_pow
  obtain ⟨pa, hpae⟩ : ∃ pa, pa = 2 ^ a := ⟨_, rfl⟩
  rw [← hpae] at hpa hpa0
  have hpaI : (2 : Int) ^ a = (pa : Int) := by rw [hpae]; simp
  have HPA := Lib.hid hpae
  have HPAI := Lib.hid hpaI
  clear hx hp hk hg0 hb0w hown0 hpae hpaI
  go_enter Tryd.func26, Tryd.ntmps26
  go_wp2_with fail
  refine (W1.out _).mono ?_
  rintro e w' ⟨rfl, rfl⟩
  go_wp2_with fail
  refine (W2.out _).mono ?_
  rintro e w' ⟨rfl, rfl⟩
  go_wp2_with fail
  clear hmk e1 e2
  go_loopw [35, 10, 11, 12] (fun j v r h wr => ∃ i q hv rr : Nat, i ≤ ds.length ∧ j = .int .i64 i ∧ OwnB wr w.heap.size v (outsN b (bitsAll a (ds.take i)) q) ∧ r = .int .i64 rr ∧ h = .int .i64 hv ∧ Hid (Left b (bitsAll a (ds.take i)) q hv rr) ∧ hv < b ∧ Hid (∀ d ∈ ds.take i, d.toNat < 2 ^ a) ∧ Below w.heap.size w wr) (fun j _ _ _ _ => ds.length - (intOf j).toNat)
  case atStart => exact ⟨0, 0, 0, 0, Nat.zero_le _, rfl, by simpa [outsN, OwnB] using HO0.out, rfl, rfl, Lib.hid ⟨by simp [bitsAll], by simp [bitsAll, valN]⟩, by omega, Lib.hid (by simp), HB0.out⟩
  case round =>
    obtain ⟨i, q, hv, rr, hi2, rfl, hown, rfl, rfl, hleft, hvb, hall, hbel⟩ := hrel
    have hrr := hleft.out.lt (bitsAll_bin _ _)
    have hrr2 : rr < 128 := Nat.lt_of_lt_of_le hrr (show 2 ^ hv ≤ 2 ^ 7 from Nat.pow_le_pow_right (by omega) (by omega))
    clear hrr
    by_cases hlt : i < ds.length
    · obtain ⟨A', c', e0, _, _, _, h4⟩ := hX.out
      injection e0 with e1 e2 e4
      subst e1 e4
      clear e2
      obtain ⟨bb, o, rfl, hbb, hbc⟩ := h4 (by rintro rfl; simp at hlt)
      have hci := hbc i _ (List.getElem?_eq_getElem hlt)
      obtain ⟨d, hd⟩ : ∃ d, d = ds[i] := ⟨_, rfl⟩
      rw [← hd] at hci
      have hbi : wr.cell? ⟨bb, o + i, none⟩ = some (.int .u8 (d.toNat : Int)) := (hbel.cell (p := ⟨bb, _, none⟩) (by show bb < _; omega)).trans hci
      have hqi : ds[i]? = some d := by rw [hd]; exact List.getElem?_eq_getElem hlt
      have hsn := bitsAll_snoc a hqi
      have hd256 := d.toNat_lt
      have HQI := Lib.hid hqi
      have HSN := Lib.hid hsn
      have hpaI2 := HPAI.out
      clear hbc h4 hci hd hqi hsn
      by_cases hbig : pa ≤ d.toNat
      · have hd1 : ((d.toNat : Int) / (pa : Int) != 0) = true := by
          have h1 : 0 < d.toNat / pa := Nat.div_pos hbig (by omega)
          have h2 : ((d.toNat : Int) / (pa : Int)) = ((d.toNat / pa : Nat) : Int) := by simp
          rw [h2]; simp; omega
        have HBAD : Hid (regS a b pad ds = (3, [])) := Lib.hid (HRB.out ⟨d, List.mem_of_getElem? HQI.out, by rw [← HPA.out]; exact hbig⟩)
        go_wp2
        go_ret2
        exact ⟨_, by rw [HBAD.out]; rfl, by rw [HBAD.out]; exact OwnB.nil _ _, hbel⟩
      · have hd1 : ((d.toNat : Int) / (pa : Int) != 0) = false := by
          have h1 : d.toNat / pa = 0 := Nat.div_eq_of_lt (by omega)
          have h2 : ((d.toNat : Int) / (pa : Int)) = ((d.toNat / pa : Nat) : Int) := by simp
          rw [h2, h1]; rfl
        obtain ⟨s, hs⟩ : ∃ s, s = rr * pa := ⟨_, rfl⟩
        have hsb : s ≤ 32768 := by rw [hs]; exact Nat.mul_le_mul (show rr ≤ 128 by omega) hpa
        have e1 : IntKind.i64.wrap ((rr : Int) * (pa : Int)) = (s : Int) := by
          have : (rr : Int) * (pa : Int) = ((s : Nat) : Int) := by rw [hs]; simp
          rw [this]; exact IntWalk.i64_in _ (by omega)
        have hsm : (s : Int) % 2 ^ a = 0 := by
          rw [hpaI2, hs]; simp
        have e2 : bits .or .i64 (s : Int) (d.toNat : Int) = (s : Int) + (d.toNat : Int) := by
          refine bits_join .i64 62 (by decide) (fun n h0 h1 => IntWalk.i64_in _ (by omega)) a (s : Int) (d.toNat : Int) (by omega) hsm (by omega) (by omega) (by rw [hpaI2]; omega) (by omega)
        have hmore := hleft.out.more (a := a) (v := d.toNat) (by rw [← HPA.out]; omega)
        rw [← HPA.out, ← hs, ← HSN.out] at hmore
        have houts : outsN b (bitsAll a (ds.take i)) q = outsN b (bitsAll a (ds.take (i + 1))) q := by
          rw [HSN.out, outsN_more _ (by have := hleft.out.len; omega)]
        rw [houts] at hown
        have HA1 : Hid (∀ e ∈ ds.take (i + 1), e.toNat < 2 ^ a) := Lib.hid (fun e he => by
          rw [List.take_add_one, HQI.out] at he
          rcases List.mem_append.1 he with h | h
          · exact hall.out e h
          · have : e = d := by simpa using h
            rw [this, ← HPA.out]; omega)
        have HM := Lib.hid hmore
        obtain ⟨l, hle⟩ : ∃ l, l = bitsAll a (ds.take (i + 1)) := ⟨_, rfl⟩
        rw [← hle] at hown HM
        have hlb : Bin l := by rw [hle]; exact bitsAll_bin _ _
        have hll : l.length ≤ 160008 := by
          rw [hle, bitsAll_length, List.length_take]
          exact Nat.le_trans (Nat.mul_le_mul (Nat.le_trans (Nat.min_le_right _ _) hl) ha1) (by omega)
        have HLE := Lib.hid hle
        have HLB := Lib.hid hlb
        clear hs hsm hmore houts hleft hall hle hlb
        have hpaI3 := HPAI.out
        go_wp2_with fail
        go_loopw [12, 10, 11] (fun h v r wx => ∃ q hv rr : Nat, h = .int .i64 hv ∧ hv ≤ 16 ∧ OwnB wx w.heap.size v (outsN b l q) ∧ r = .int .i64 rr ∧ Hid (Left b l q hv rr) ∧ Below w.heap.size w wx) (fun h _ _ _ => (intOf h).toNat)
        case atStart => exact ⟨q, hv + a, s + d.toNat, by go_num, by omega, hown, by go_num, HM, hbel⟩
        case round =>
          obtain ⟨q, hv, rr, rfl, hv16, hown2, rfl, hleft, hbel2⟩ := hrel
          have hrr := hleft.out.lt HLB.out
          have hrr3 : rr < 65536 := Nat.lt_of_lt_of_le hrr (show 2 ^ hv ≤ 2 ^ 16 from Nat.pow_le_pow_right (by omega) hv16)
          clear hrr
          by_cases hge : b ≤ hv
          · obtain ⟨hl1, hl2, hl3⟩ := hleft.out.less HLB.out hge
            obtain ⟨h2, hh2⟩ : ∃ h2, h2 = hv - b := ⟨_, rfl⟩
            rw [← hh2] at hl1 hl2 hl3
            have e1 : (hv : Int) - (b : Int) = (h2 : Int) := by omega
            obtain ⟨pw, hpw⟩ : ∃ pw, pw = 2 ^ h2 := ⟨_, rfl⟩
            have hpw1 : 1 ≤ pw := by rw [hpw]; exact Nat.one_le_two_pow
            have hpw2 : pw ≤ 65536 := by rw [hpw]; exact (show 2 ^ h2 ≤ 2 ^ 16 from Nat.pow_le_pow_right (by omega) (by omega))
            have ep : (2 : Int) ^ h2 = (pw : Int) := by rw [hpw]; simp
            rw [← hpw] at hl1 hl2 hl3
            obtain ⟨xv, hxv⟩ : ∃ xv, xv = rr / pw := ⟨_, rfl⟩
            obtain ⟨yv, hyv⟩ : ∃ yv, yv = rr % pw := ⟨_, rfl⟩
            rw [← hxv] at hl2 hl3
            rw [← hyv] at hl1
            have ex : (rr : Int) / (pw : Int) = (xv : Int) := by rw [hxv]; simp
            have ew1 : IntKind.i64.wrap (pw : Int) = (pw : Int) := IntWalk.i64_in _ (by omega)
            have ey : bits .and .i64 (rr : Int) ((pw : Int) - 1) = (yv : Int) := by
              have h := bits_mask .i64 62 (by decide) (fun n h0 h1 => IntWalk.i64_in _ (by omega)) h2 (by omega) (rr : Int) (by omega) (by omega)
              rw [ep] at h
              rw [h, hyv]
              simp
            have hx256 : xv < 256 := Nat.lt_of_lt_of_le hl3 hpb2
            have hmade : Byt (wr.alloc (.cells #[.int .u8 (xv : Int)] 5)) (wr.heap.size + 1) (.slice (some ⟨wr.heap.size, 0, none⟩) 1 1) [b8 (xv : Int)] :=
              Byt.made wr _ [_] [b8 (xv : Int)] (by rw [List.map_cons, List.map_nil, bv_b8_of (by omega) (by omega)]) (by unfold maxLen; simp)
            obtain ⟨Av3, cv3, hv3⟩ := hown2.form
            subst hv3
            have hbs3 := hbel2.size
            have hlen3 : (outsN b l q).length ≤ 160008 := by
              rw [outsN_length]
              have h1 := hleft.out.len
              have h2 : 1 * q ≤ b * q := Nat.mul_le_mul_right q hb0
              omega
            have hoa : (wr.alloc (.cells #[.int .u8 (xv : Int)] 5)).ownsRow w.heap.size 5 1 (.slice Av3 (outsN b l q).length cv3) (outsN b l q).length ((outsN b l q).map bv) := World.ownsRow.alloc hown2 _
            have HOA := Lib.hid hoa
            have HL1 := Lib.hid hl1
            have HL2 := Lib.hid hl2
            have hhb : h2 < hv := by omega
            clear hl1 hl2 hl3 hh2 hpw hxv hyv hoa hown2 hleft
            go_wp2_with (at_builtin; refine wpList_append_bytes rfl (.tmp 59) (.tmp 64) 22 rfl w.heap.size 5 i0 slice_u8 hi hz0 hz1 hz2 _ (outsN b l q).length ((outsN b l q).map bv) rfl HOA.out (wr.heap.size + 1) _ [b8 (xv : Int)] rfl hmade (by simp; omega) (by simp; omega) ?_; intro v1 w1 hown1 hg1 hat1)
            have hb1' : Below w.heap.size w w1 := (hbel2.alloc hbs3 _).grown hg1 (by simp; omega) (fun j hj => (HOA.out.lt j hj).1)
            refine ⟨⟨q + 1, h2, yv, rfl, by omega, ?_, rfl, HL1, hb1'⟩, by simp [intOf]; omega⟩
            rw [HL2.out]
            unfold OwnB
            rw [List.length_append, List.map_append]
            exact hown1
          · go_wp2
            exact ⟨⟨i + 1, q, hv, rr, by omega, by go_num, by rw [← HLE.out]; exact hown2, rfl, rfl, Lib.hid (by rw [← HLE.out]; exact hleft.out), by omega, HA1, hbel2⟩, by simp [intOf]; omega⟩
    · have hie : ds.take i = ds := List.take_of_length_le (by omega)
      rw [hie] at hown hleft hall
      have hreg := HR.out q hv rr hall.out hleft.out hvb
      have HREG := Lib.hid hreg
      have hq3 : q ≤ 160008 := by
        have h1 := hleft.out.len
        have h2 : 1 * q ≤ b * q := Nat.mul_le_mul_right q hb0
        have h3 : (bitsAll a ds).length ≤ 160000 := by rw [bitsAll_length]; exact Nat.mul_le_mul hl ha1
        omega
      obtain ⟨l, hle⟩ : ∃ l, l = bitsAll a ds := ⟨_, rfl⟩
      rw [← hle] at hown
      have HLE := Lib.hid hle
      have HLF := Lib.hid hleft.out
      clear hie hreg hle hleft hall HR HRB
      cases pad with
      | false =>
        by_cases h1 : a ≤ hv
        · have hd1 : decide (a ≤ hv) = true := decide_eq_true h1
          have hd2 : decide ((a : Int) ≤ (hv : Int)) = true := decide_eq_true (by omega)
          have HRE : Hid (regS a b false ds = (3, [])) := Lib.hid (by rw [HREG.out, if_neg (by simp), if_pos (.inl h1)])
          go_wp2
          go_ret2
          exact ⟨_, by rw [HRE.out]; rfl, by rw [HRE.out]; exact OwnB.nil _ _, hbel⟩
        · have hd1 : decide (a ≤ hv) = false := decide_eq_false h1
          have hd2 : decide ((a : Int) ≤ (hv : Int)) = false := decide_eq_false (by omega)
          by_cases h2 : rr = 0
          · have HRE : Hid (regS a b false ds = (0, outsN b l q)) := Lib.hid (by rw [HREG.out, if_neg (by simp), if_neg (by omega), HLE.out])
            subst h2
            have HOWN := Lib.hid hown
            clear hown
            go_wp2
            go_ret2
            exact ⟨_, by rw [HRE.out]; rfl, by rw [HRE.out]; exact HOWN.out, hbel⟩
          · have hd3 : ((rr : Int) != 0) = true := by simp; omega
            have HRE : Hid (regS a b false ds = (3, [])) := Lib.hid (by rw [HREG.out, if_neg (by simp), if_pos (.inr h2)])
            go_wp2
            go_ret2
            exact ⟨_, by rw [HRE.out]; rfl, by rw [HRE.out]; exact OwnB.nil _ _, hbel⟩
      | true =>
        by_cases h1 : 0 < hv
        · have hd1 : decide (0 < hv) = true := decide_eq_true h1
          have hd2 : decide ((0 : Int) < (hv : Int)) = true := decide_eq_true (by omega)
          obtain ⟨h2, hh2⟩ : ∃ h2, h2 = b - hv := ⟨_, rfl⟩
          have e1 : (b : Int) - (hv : Int) = (h2 : Int) := by omega
          obtain ⟨pw, hpw⟩ : ∃ pw, pw = 2 ^ h2 := ⟨_, rfl⟩
          have ep : (2 : Int) ^ h2 = (pw : Int) := by rw [hpw]; simp
          obtain ⟨zv, hzv⟩ : ∃ zv, zv = rr * pw := ⟨_, rfl⟩
          have hlt2 := HLF.out.lt (bitsAll_bin _ _)
          have hz256 : zv < 256 := by
            have h3 : rr * 2 ^ h2 < 2 ^ hv * 2 ^ h2 := Nat.mul_lt_mul_of_pos_right hlt2 (Nat.two_pow_pos _)
            rw [← Nat.pow_add] at h3
            have h4 : hv + h2 = b := by omega
            rw [h4] at h3
            rw [hzv, hpw]
            omega
          have ez : (rr : Int) * (pw : Int) = (zv : Int) := by rw [hzv]; simp
          have ew : IntKind.i64.wrap (zv : Int) = (zv : Int) := IntWalk.i64_in _ (by omega)
          have HRE : Hid (regS a b true ds = (0, outsN b l q ++ [b8 (zv : Int)])) := Lib.hid (by rw [HREG.out, if_pos rfl, if_pos h1, HLE.out, hzv, hpw, hh2])
          have hmade : Byt (wr.alloc (.cells #[.int .u8 (zv : Int)] 5)) (wr.heap.size + 1) (.slice (some ⟨wr.heap.size, 0, none⟩) 1 1) [b8 (zv : Int)] :=
            Byt.made wr _ [_] [b8 (zv : Int)] (by rw [List.map_cons, List.map_nil, bv_b8_of (by omega) (by omega)]) (by unfold maxLen; simp)
          obtain ⟨Av3, cv3, hv3⟩ := hown.form
          subst hv3
          have hbs3 := hbel.size
          have hlen3 : (outsN b l q).length ≤ 160008 := by rw [outsN_length]; exact hq3
          have hoa : (wr.alloc (.cells #[.int .u8 (zv : Int)] 5)).ownsRow w.heap.size 5 1 (.slice Av3 (outsN b l q).length cv3) (outsN b l q).length ((outsN b l q).map bv) := World.ownsRow.alloc hown _
          have HOA := Lib.hid hoa
          clear hlt2 hh2 hpw hzv hoa hown
          go_wp2_with (at_builtin; refine wpList_append_bytes rfl (.tmp 88) (.tmp 95) 22 rfl w.heap.size 5 i0 slice_u8 hi hz0 hz1 hz2 _ (outsN b l q).length ((outsN b l q).map bv) rfl HOA.out (wr.heap.size + 1) _ [b8 (zv : Int)] rfl hmade (by simp; omega) (by simp; omega) ?_; intro v1 w1 hown1 hg1 hat1; obtain ⟨Av4, cv4, rfl⟩ := own_form hown1)
          have hb1' : Below w.heap.size w w1 := (hbel.alloc hbs3 _).grown hg1 (by simp; omega) (fun j hj => (HOA.out.lt j hj).1)
          have HOWN := Lib.hid hown1
          clear hown1
          go_wp2
          go_ret2
          refine ⟨_, by rw [HRE.out]; rfl, ?_, hb1'⟩
          rw [HRE.out]
          unfold OwnB
          rw [List.length_append, List.map_append]
          exact HOWN.out
        · have hd1 : decide (0 < hv) = false := decide_eq_false h1
          have hd2 : decide ((0 : Int) < (hv : Int)) = false := decide_eq_false (by omega)
          have HRE : Hid (regS a b true ds = (0, outsN b l q)) := Lib.hid (by rw [HREG.out, if_pos rfl, if_neg h1, HLE.out])
          obtain ⟨Av3, cv3, hv3⟩ := hown.form
          subst hv3
          have HOWN := Lib.hid hown
          clear hown
          go_wp2
          go_ret2
          exact ⟨_, by rw [HRE.out]; rfl, by rw [HRE.out]; exact HOWN.out, hbel⟩
end Go.Proofs.YtpaafkhlelljcaaDoor
