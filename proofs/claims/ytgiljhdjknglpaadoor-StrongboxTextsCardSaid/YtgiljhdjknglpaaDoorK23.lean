/-
  Texts joined: Grp, GrpRef, BcSeg. Conditions: those of each.
-/
import Derived.Test.YtgiljhdjknglpaaDoorK22
import Derived.Laws.BitsLemmas
import Derived.Test.YtgiljhdjknglpaaDoorK4
/-
  text.Regroup. Conditions: sizes within the reach.
-/
namespace Go.Proofs.YtgiljhdjknglpaaDoor
open Go.RowKit

theorem width_yes (n : Int) (w : World) (h0 : 1 ≤ n) (h1 : n ≤ 8) :
    Calls Tryd.prog 36 #[.int .i64 n] w fun e w' => e = .returned (.bool true) ∧ w = w' := by
  have d0 : decide (1 ≤ n) = true := decide_eq_true h0
  have d1 : decide (n ≤ 8) = true := decide_eq_true h1
  go_enter Tryd.func36, Tryd.ntmps36
  go_wp2
  go_ret
  exact ⟨rfl, rfl⟩
theorem width_no (n : Int) (w : World) (h : n < 1 ∨ 8 < n) :
    Calls Tryd.prog 36 #[.int .i64 n] w fun e w' => e = .returned (.bool false) ∧ w = w' := by
  by_cases h0 : 1 ≤ n
  · have d0 : decide (1 ≤ n) = true := decide_eq_true h0
    have d1 : decide (n ≤ 8) = false := decide_eq_false (by omega)
    go_enter Tryd.func36, Tryd.ntmps36
    go_wp2
    go_ret
    exact ⟨rfl, rfl⟩
  · have d0 : decide (1 ≤ n) = false := decide_eq_false h0
    go_enter Tryd.func36, Tryd.ntmps36
    go_wp2
    go_ret
    exact ⟨rfl, rfl⟩

/-- What regrouping answers. -/
def RegPost (w : World) (r : Int × List UInt8) (e : Ending) (w' : World) : Prop :=
  ∃ v, e = .returned (.tuple #[v, .int .i64 r.1]) ∧ OwnB w' w.heap.size v r.2 ∧ Below w.heap.size w w'

/-- Behind the first bits l: q values, and hv bits left, which are rr. -/
structure Left (b : Nat) (l : List Nat) (q hv rr : Nat) : Prop where
  len : b * q + hv = l.length
  val : rr = valN (l.drop (b * q))
theorem Left.rest {b q hv rr : Nat} {l : List Nat} (h : Left b l q hv rr) : (l.drop (b * q)).length = hv := by rw [List.length_drop]; have := h.len; omega
theorem Left.lt {b q hv rr : Nat} {l : List Nat} (h : Left b l q hv rr) (hb : Bin l) : rr < 2 ^ hv := by
  have := valN_lt (l := l.drop (b * q)) (fun x hx => hb x (List.mem_of_mem_drop hx))
  rw [h.rest] at this
  rw [h.val]; exact this
theorem Left.more {b q hv rr a v : Nat} {l : List Nat} (h : Left b l q hv rr) (hv2 : v < 2 ^ a) : Left b (l ++ bitsV a v) q (hv + a) (rr * 2 ^ a + v) := by
  refine ⟨by rw [List.length_append, bitsV_length]; have := h.len; omega, ?_⟩
  rw [List.drop_append_of_le_length (by have := h.len; omega), valN_append, bitsV_length, bitsV_val _ _ hv2, ← h.val]
theorem Left.less {b q hv rr : Nat} {l : List Nat} (h : Left b l q hv rr) (hb : Bin l) (hle : b ≤ hv) :
    Left b l (q + 1) (hv - b) (rr % 2 ^ (hv - b)) ∧ outsN b l (q + 1) = outsN b l q ++ [b8 ((rr / 2 ^ (hv - b) : Nat) : Int)] ∧ rr / 2 ^ (hv - b) < 2 ^ b := by
  have hbin : Bin (l.drop (b * q)) := fun x hx => hb x (List.mem_of_mem_drop hx)
  obtain ⟨h1, h2⟩ := split_left (t := b) hbin
  rw [h.rest, ← h.val] at h1 h2
  have hd : (l.drop (b * q)).drop b = l.drop (b * (q + 1)) := by rw [List.drop_drop]; congr 1
  refine ⟨⟨by rw [Nat.mul_add, Nat.mul_one]; have := h.len; omega, by rw [h2, hd]⟩, by rw [outsN_succ, h1], ?_⟩
  rw [h1]
  have := valN_lt (l := (l.drop (b * q)).take b) (fun x hx => hbin x (List.mem_of_mem_take hx))
  refine Nat.lt_of_lt_of_le this (Nat.pow_le_pow_right (by omega) (List.length_take_le _ _))

theorem regS_eval {a b q hv rr : Nat} {ds : List UInt8} (ha0 : 1 ≤ a) (ha1 : a ≤ 8) (hb0 : 1 ≤ b) (hb1 : b ≤ 8) (hd : ∀ d ∈ ds, d.toNat < 2 ^ a) (h : Left b (bitsAll a ds) q hv rr) (hlt : hv < b) (pad : Bool) :
    regS a b pad ds = if pad then (0, if 0 < hv then outsN b (bitsAll a ds) q ++ [b8 ((rr * 2 ^ (b - hv) : Nat) : Int)] else outsN b (bitsAll a ds) q) else if a ≤ hv ∨ rr ≠ 0 then (3, []) else (0, outsN b (bitsAll a ds) q) := by
  have e1 : (a : Int).toNat = a := Int.toNat_natCast _
  have e2 : (b : Int).toNat = b := Int.toNat_natCast _
  have hq : (bitsAll a ds).length / b = q := by
    rw [← h.len, Nat.mul_add_div (by omega), Nat.div_eq_of_lt hlt, Nat.add_zero]
  have hnb : ¬ ∃ d ∈ ds, 2 ^ a ≤ d.toNat := fun ⟨d, h1, h2⟩ => by have := hd d h1; omega
  unfold regS
  rw [if_neg (by omega), e1, e2, if_neg hnb]
  simp only [hq, h.rest]
  rw [← h.val, valN_append, valN_zeros, List.length_replicate, ← h.val, Nat.add_zero]
theorem regS_bad {a b : Nat} {ds : List UInt8} (ha0 : 1 ≤ a) (ha1 : a ≤ 8) (hb0 : 1 ≤ b) (hb1 : b ≤ 8) (hd : ∃ d ∈ ds, 2 ^ a ≤ d.toNat) (pad : Bool) : regS a b pad ds = (3, []) := by
  have e1 : (a : Int).toNat = a := Int.toNat_natCast _
  unfold regS
  rw [if_neg (by omega), e1, if_pos hd]
theorem regS_out {f t : Int} {ds : List UInt8} (h : f < 1 ∨ 8 < f ∨ t < 1 ∨ 8 < t) (pad : Bool) : regS f t pad ds = (1, []) := by
  unfold regS
  rw [if_pos h]
theorem pow_8 {a : Nat} (h : a ≤ 8) : (2 : Nat) ^ a ≤ 256 := Nat.pow_le_pow_right (n := 2) (by omega) h

set_option maxRecDepth 100000 in
set_option maxHeartbeats 6400000 in
theorem regroup_good (B : Nat) (x : Value) (ds : List UInt8) (a b : Nat) (pad : Bool) (w : World) (hx : Byt w B x ds) (hB : B ≤ w.heap.size) (hl : ds.length ≤ 20000) (ha0 : 1 ≤ a) (ha1 : a ≤ 8) (hb0 : 1 ≤ b) (hb1 : b ≤ 8) :
    Calls Tryd.prog 17 #[x, .int .i64 a, .int .i64 b, .bool pad] w (RegPost w (regS a b pad ds)) := by
  obtain ⟨i0, hi, hz0, hz1, hz2⟩ := info_parts info_u8
  obtain ⟨A, c, hxf⟩ := hx.form
  subst hxf
  have hX := Lib.hid hx
  have W1 := Lib.hid (fun W => width_yes (a : Int) W (by omega) (by omega))
  have W2 := Lib.hid (fun W => width_yes (b : Int) W (by omega) (by omega))
  obtain ⟨p, hp⟩ : ∃ p, p = ds.length * a := ⟨_, rfl⟩
  have hpb : p ≤ 160000 := by rw [hp]; exact Nat.mul_le_mul hl ha1
  have e1 : (ds.length : Int) * (a : Int) = (p : Int) := by rw [hp]; simp
  obtain ⟨k, hk⟩ : ∃ k, k = (p + b - 1) / b := ⟨_, rfl⟩
  have hkb : k ≤ 160008 := by rw [hk]; exact Nat.le_trans (Nat.div_le_self _ _) (by omega)
  have e2 : ((p : Int) + (b : Int) - 1) / (b : Int) = (k : Int) := by
    rw [hk]
    have : ((p + b - 1 : Nat) : Int) = (p : Int) + (b : Int) - 1 := by omega
    rw [Int.natCast_ediv, this]
  have e3 : ¬ ((b : Int) = 0) := by omega
  obtain ⟨w0, hmk, hown0, hg0⟩ := run_make_own (P := Tryd.prog) w w.heap.size 23 5 i0 (.int .u8 0) 1 slice_u8 hi hz0 hz1 .i64 .i64 k (by rw [hz2]; omega) (by unfold maxLen; omega) (Nat.le_refl _)
  have hb0w : Below w.heap.size w w0 := (Below.refl _ _).grown hg0 (Nat.le_refl _) (fun k hk => by cases hk)
  have HB0 := Lib.hid hb0w
  have HO0 := Lib.hid hown0
  have HR := Lib.hid (fun q hv rr hd h hlt => regS_eval (a := a) (b := b) (q := q) (hv := hv) (rr := rr) (ds := ds) ha0 ha1 hb0 hb1 hd h hlt pad)
  have HRB := Lib.hid (fun hd => regS_bad (a := a) (b := b) (ds := ds) ha0 ha1 hb0 hb1 hd pad)
  have hpa := pow_8 ha1
  have hpb2 := pow_8 hb1
  have hpa0 : 1 ≤ 2 ^ a := Nat.one_le_two_pow
  obtain ⟨pa, hpae⟩ : ∃ pa, pa = 2 ^ a := ⟨_, rfl⟩
  rw [← hpae] at hpa hpa0
  have hpaI : (2 : Int) ^ a = (pa : Int) := by rw [hpae]; simp
  have HPA := Lib.hid hpae
  have HPAI := Lib.hid hpaI
  clear hx hp hk hg0 hb0w hown0 hpae hpaI
  go_enter Tryd.func17, Tryd.ntmps17
  go_wp2_with fail
  refine (W1.out _).mono ?_
  rintro e w' ⟨rfl, rfl⟩
  go_wp2_with fail
  refine (W2.out _).mono ?_
  rintro e w' ⟨rfl, rfl⟩
  go_wp2_with fail
  clear hmk e1 e2
  go_loopw [35, 10, 11, 12] (fun j v r h wr => ∃ i q hv rr : Nat, i ≤ ds.length ∧ j = .int .i64 i ∧ OwnB wr w.heap.size v (outsN b (bitsAll a (ds.take i)) q) ∧ r = .int .i64 rr ∧ h = .int .i64 hv ∧ Hid (Left b (bitsAll a (ds.take i)) q hv rr) ∧ hv < b ∧ Hid (∀ d ∈ ds.take i, d.toNat < 2 ^ a) ∧ Below w.heap.size w wr) (fun j _ _ _ _ => ds.length - (intOf j).toNat)
  case atStart => exact ⟨0, 0, 0, 0, Nat.zero_le _, rfl, by simpa [outsN, OwnB] using HO0.out, rfl, rfl, Lib.hid ⟨by simp [bitsAll], by simp [bitsAll, valN]⟩, by omega, Lib.hid (by simp), HB0.out⟩
  case round =>
    obtain ⟨i, q, hv, rr, hi2, rfl, hown, rfl, rfl, hleft, hvb, hall, hbel⟩ := hrel
    have hrr := hleft.out.lt (bitsAll_bin _ _)
    have hrr2 : rr < 128 := Nat.lt_of_lt_of_le hrr (show 2 ^ hv ≤ 2 ^ 7 from Nat.pow_le_pow_right (by omega) (by omega))
    clear hrr
    by_cases hlt : i < ds.length
    · obtain ⟨A', c', e0, _, _, _, h4⟩ := hX.out
      injection e0 with e1 e2 e4
      subst e1 e4
      clear e2
      obtain ⟨bb, o, rfl, hbb, hbc⟩ := h4 (by rintro rfl; simp at hlt)
      have hci := hbc i _ (List.getElem?_eq_getElem hlt)
      obtain ⟨d, hd⟩ : ∃ d, d = ds[i] := ⟨_, rfl⟩
      rw [← hd] at hci
      have hbi : wr.cell? ⟨bb, o + i, none⟩ = some (.int .u8 (d.toNat : Int)) := (hbel.cell (p := ⟨bb, _, none⟩) (by show bb < _; omega)).trans hci
      have hqi : ds[i]? = some d := by rw [hd]; exact List.getElem?_eq_getElem hlt
      have hsn := bitsAll_snoc a hqi
      have hd256 := d.toNat_lt
      have HQI := Lib.hid hqi
      have HSN := Lib.hid hsn
      have hpaI2 := HPAI.out
      clear hbc h4 hci hd hqi hsn
      by_cases hbig : pa ≤ d.toNat
      · have hd1 : ((d.toNat : Int) / (pa : Int) != 0) = true := by
          have h1 : 0 < d.toNat / pa := Nat.div_pos hbig (by omega)
          have h2 : ((d.toNat : Int) / (pa : Int)) = ((d.toNat / pa : Nat) : Int) := by simp
          rw [h2]; simp; omega
        have HBAD : Hid (regS a b pad ds = (3, [])) := Lib.hid (HRB.out ⟨d, List.mem_of_getElem? HQI.out, by rw [← HPA.out]; exact hbig⟩)
        go_wp2
        go_ret2
        exact ⟨_, by rw [HBAD.out]; rfl, by rw [HBAD.out]; exact OwnB.nil _ _, hbel⟩
      · have hd1 : ((d.toNat : Int) / (pa : Int) != 0) = false := by
          have h1 : d.toNat / pa = 0 := Nat.div_eq_of_lt (by omega)
          have h2 : ((d.toNat : Int) / (pa : Int)) = ((d.toNat / pa : Nat) : Int) := by simp
          rw [h2, h1]; rfl
        obtain ⟨s, hs⟩ : ∃ s, s = rr * pa := ⟨_, rfl⟩
        have hsb : s ≤ 32768 := by rw [hs]; exact Nat.mul_le_mul (show rr ≤ 128 by omega) hpa
        have e1 : IntKind.i64.wrap ((rr : Int) * (pa : Int)) = (s : Int) := by
          have : (rr : Int) * (pa : Int) = ((s : Nat) : Int) := by rw [hs]; simp
          rw [this]; exact IntWalk.i64_in _ (by omega)
        have hsm : (s : Int) % 2 ^ a = 0 := by
          rw [hpaI2, hs]; simp
        have e2 : bits .or .i64 (s : Int) (d.toNat : Int) = (s : Int) + (d.toNat : Int) := by
          refine bits_join .i64 62 (by decide) (fun n h0 h1 => IntWalk.i64_in _ (by omega)) a (s : Int) (d.toNat : Int) (by omega) hsm (by omega) (by omega) (by rw [hpaI2]; omega) (by omega)
        have hmore := hleft.out.more (a := a) (v := d.toNat) (by rw [← HPA.out]; omega)
        rw [← HPA.out, ← hs, ← HSN.out] at hmore
        have houts : outsN b (bitsAll a (ds.take i)) q = outsN b (bitsAll a (ds.take (i + 1))) q := by
          rw [HSN.out, outsN_more _ (by have := hleft.out.len; omega)]
        rw [houts] at hown
        have HA1 : Hid (∀ e ∈ ds.take (i + 1), e.toNat < 2 ^ a) := Lib.hid (fun e he => by
          rw [List.take_add_one, HQI.out] at he
          rcases List.mem_append.1 he with h | h
          · exact hall.out e h
          · have : e = d := by simpa using h
            rw [this, ← HPA.out]; omega)
        have HM := Lib.hid hmore
        obtain ⟨l, hle⟩ : ∃ l, l = bitsAll a (ds.take (i + 1)) := ⟨_, rfl⟩
        rw [← hle] at hown HM
        have hlb : Bin l := by rw [hle]; exact bitsAll_bin _ _
        have hll : l.length ≤ 160008 := by
          rw [hle, bitsAll_length, List.length_take]
          exact Nat.le_trans (Nat.mul_le_mul (Nat.le_trans (Nat.min_le_right _ _) hl) ha1) (by omega)
        have HLE := Lib.hid hle
        have HLB := Lib.hid hlb
        clear hs hsm hmore houts hleft hall hle hlb
        have hpaI3 := HPAI.out
        go_wp2_with fail
        go_loopw [12, 10, 11] (fun h v r wx => ∃ q hv rr : Nat, h = .int .i64 hv ∧ hv ≤ 16 ∧ OwnB wx w.heap.size v (outsN b l q) ∧ r = .int .i64 rr ∧ Hid (Left b l q hv rr) ∧ Below w.heap.size w wx) (fun h _ _ _ => (intOf h).toNat)
        case atStart => exact ⟨q, hv + a, s + d.toNat, by go_num, by omega, hown, by go_num, HM, hbel⟩
        case round =>
          obtain ⟨q, hv, rr, rfl, hv16, hown2, rfl, hleft, hbel2⟩ := hrel
          have hrr := hleft.out.lt HLB.out
          have hrr3 : rr < 65536 := Nat.lt_of_lt_of_le hrr (show 2 ^ hv ≤ 2 ^ 16 from Nat.pow_le_pow_right (by omega) hv16)
          clear hrr
          by_cases hge : b ≤ hv
          · obtain ⟨hl1, hl2, hl3⟩ := hleft.out.less HLB.out hge
            obtain ⟨h2, hh2⟩ : ∃ h2, h2 = hv - b := ⟨_, rfl⟩
            rw [← hh2] at hl1 hl2 hl3
            have e1 : (hv : Int) - (b : Int) = (h2 : Int) := by omega
            obtain ⟨pw, hpw⟩ : ∃ pw, pw = 2 ^ h2 := ⟨_, rfl⟩
            have hpw1 : 1 ≤ pw := by rw [hpw]; exact Nat.one_le_two_pow
            have hpw2 : pw ≤ 65536 := by rw [hpw]; exact (show 2 ^ h2 ≤ 2 ^ 16 from Nat.pow_le_pow_right (by omega) (by omega))
            have ep : (2 : Int) ^ h2 = (pw : Int) := by rw [hpw]; simp
            rw [← hpw] at hl1 hl2 hl3
            obtain ⟨xv, hxv⟩ : ∃ xv, xv = rr / pw := ⟨_, rfl⟩
            obtain ⟨yv, hyv⟩ : ∃ yv, yv = rr % pw := ⟨_, rfl⟩
            rw [← hxv] at hl2 hl3
            rw [← hyv] at hl1
            have ex : (rr : Int) / (pw : Int) = (xv : Int) := by rw [hxv]; simp
            have ew1 : IntKind.i64.wrap (pw : Int) = (pw : Int) := IntWalk.i64_in _ (by omega)
            have ey : bits .and .i64 (rr : Int) ((pw : Int) - 1) = (yv : Int) := by
              have h := bits_mask .i64 62 (by decide) (fun n h0 h1 => IntWalk.i64_in _ (by omega)) h2 (by omega) (rr : Int) (by omega) (by omega)
              rw [ep] at h
              rw [h, hyv]
              simp
            have hx256 : xv < 256 := Nat.lt_of_lt_of_le hl3 hpb2
            have hmade : Byt (wr.alloc (.cells #[.int .u8 (xv : Int)] 5)) (wr.heap.size + 1) (.slice (some ⟨wr.heap.size, 0, none⟩) 1 1) [b8 (xv : Int)] :=
              Byt.made wr _ [_] [b8 (xv : Int)] (by rw [List.map_cons, List.map_nil, bv_b8_of (by omega) (by omega)]) (by unfold maxLen; simp)
            obtain ⟨Av3, cv3, hv3⟩ := hown2.form
            subst hv3
            have hbs3 := hbel2.size
            have hlen3 : (outsN b l q).length ≤ 160008 := by
              rw [outsN_length]
              have h1 := hleft.out.len
              have h2 : 1 * q ≤ b * q := Nat.mul_le_mul_right q hb0
              omega
            have hoa : (wr.alloc (.cells #[.int .u8 (xv : Int)] 5)).ownsRow w.heap.size 5 1 (.slice Av3 (outsN b l q).length cv3) (outsN b l q).length ((outsN b l q).map bv) := World.ownsRow.alloc hown2 _
            have HOA := Lib.hid hoa
            have HL1 := Lib.hid hl1
            have HL2 := Lib.hid hl2
            have hhb : h2 < hv := by omega
            clear hl1 hl2 hl3 hh2 hpw hxv hyv hoa hown2 hleft
            go_wp2_with (at_builtin; refine wpList_append_bytes rfl (.tmp 59) (.tmp 64) 23 rfl w.heap.size 5 i0 slice_u8 hi hz0 hz1 hz2 _ (outsN b l q).length ((outsN b l q).map bv) rfl HOA.out (wr.heap.size + 1) _ [b8 (xv : Int)] rfl hmade (by simp; omega) (by simp; omega) ?_; intro v1 w1 hown1 hg1 hat1)
            have hb1' : Below w.heap.size w w1 := (hbel2.alloc hbs3 _).grown hg1 (by simp; omega) (fun j hj => (HOA.out.lt j hj).1)
            refine ⟨⟨q + 1, h2, yv, rfl, by omega, ?_, rfl, HL1, hb1'⟩, by simp [intOf]; omega⟩
            rw [HL2.out]
            unfold OwnB
            rw [List.length_append, List.map_append]
            exact hown1
          · go_wp2
            exact ⟨⟨i + 1, q, hv, rr, by omega, by go_num, by rw [← HLE.out]; exact hown2, rfl, rfl, Lib.hid (by rw [← HLE.out]; exact hleft.out), by omega, HA1, hbel2⟩, by simp [intOf]; omega⟩
    · have hie : ds.take i = ds := List.take_of_length_le (by omega)
      rw [hie] at hown hleft hall
      have hreg := HR.out q hv rr hall.out hleft.out hvb
      have HREG := Lib.hid hreg
      have hq3 : q ≤ 160008 := by
        have h1 := hleft.out.len
        have h2 : 1 * q ≤ b * q := Nat.mul_le_mul_right q hb0
        have h3 : (bitsAll a ds).length ≤ 160000 := by rw [bitsAll_length]; exact Nat.mul_le_mul hl ha1
        omega
      obtain ⟨l, hle⟩ : ∃ l, l = bitsAll a ds := ⟨_, rfl⟩
      rw [← hle] at hown
      have HLE := Lib.hid hle
      have HLF := Lib.hid hleft.out
      clear hie hreg hle hleft hall HR HRB
      cases pad with
      | false =>
        by_cases h1 : a ≤ hv
        · have hd1 : decide (a ≤ hv) = true := decide_eq_true h1
          have hd2 : decide ((a : Int) ≤ (hv : Int)) = true := decide_eq_true (by omega)
          have HRE : Hid (regS a b false ds = (3, [])) := Lib.hid (by rw [HREG.out, if_neg (by simp), if_pos (.inl h1)])
          go_wp2
          go_ret2
          exact ⟨_, by rw [HRE.out]; rfl, by rw [HRE.out]; exact OwnB.nil _ _, hbel⟩
        · have hd1 : decide (a ≤ hv) = false := decide_eq_false h1
          have hd2 : decide ((a : Int) ≤ (hv : Int)) = false := decide_eq_false (by omega)
          by_cases h2 : rr = 0
          · have HRE : Hid (regS a b false ds = (0, outsN b l q)) := Lib.hid (by rw [HREG.out, if_neg (by simp), if_neg (by omega), HLE.out])
            subst h2
            have HOWN := Lib.hid hown
            clear hown
            go_wp2
            go_ret2
            exact ⟨_, by rw [HRE.out]; rfl, by rw [HRE.out]; exact HOWN.out, hbel⟩
          · have hd3 : ((rr : Int) != 0) = true := by simp; omega
            have HRE : Hid (regS a b false ds = (3, [])) := Lib.hid (by rw [HREG.out, if_neg (by simp), if_pos (.inr h2)])
            go_wp2
            go_ret2
            exact ⟨_, by rw [HRE.out]; rfl, by rw [HRE.out]; exact OwnB.nil _ _, hbel⟩
      | true =>
        by_cases h1 : 0 < hv
        · have hd1 : decide (0 < hv) = true := decide_eq_true h1
          have hd2 : decide ((0 : Int) < (hv : Int)) = true := decide_eq_true (by omega)
          obtain ⟨h2, hh2⟩ : ∃ h2, h2 = b - hv := ⟨_, rfl⟩
          have e1 : (b : Int) - (hv : Int) = (h2 : Int) := by omega
          obtain ⟨pw, hpw⟩ : ∃ pw, pw = 2 ^ h2 := ⟨_, rfl⟩
          have ep : (2 : Int) ^ h2 = (pw : Int) := by rw [hpw]; simp
          obtain ⟨zv, hzv⟩ : ∃ zv, zv = rr * pw := ⟨_, rfl⟩
          have hlt2 := HLF.out.lt (bitsAll_bin _ _)
          have hz256 : zv < 256 := by
            have h3 : rr * 2 ^ h2 < 2 ^ hv * 2 ^ h2 := Nat.mul_lt_mul_of_pos_right hlt2 (Nat.two_pow_pos _)
            rw [← Nat.pow_add] at h3
            have h4 : hv + h2 = b := by omega
            rw [h4] at h3
            rw [hzv, hpw]
            omega
          have ez : (rr : Int) * (pw : Int) = (zv : Int) := by rw [hzv]; simp
          have ew : IntKind.i64.wrap (zv : Int) = (zv : Int) := IntWalk.i64_in _ (by omega)
          have HRE : Hid (regS a b true ds = (0, outsN b l q ++ [b8 (zv : Int)])) := Lib.hid (by rw [HREG.out, if_pos rfl, if_pos h1, HLE.out, hzv, hpw, hh2])
          have hmade : Byt (wr.alloc (.cells #[.int .u8 (zv : Int)] 5)) (wr.heap.size + 1) (.slice (some ⟨wr.heap.size, 0, none⟩) 1 1) [b8 (zv : Int)] :=
            Byt.made wr _ [_] [b8 (zv : Int)] (by rw [List.map_cons, List.map_nil, bv_b8_of (by omega) (by omega)]) (by unfold maxLen; simp)
          obtain ⟨Av3, cv3, hv3⟩ := hown.form
          subst hv3
          have hbs3 := hbel.size
          have hlen3 : (outsN b l q).length ≤ 160008 := by rw [outsN_length]; exact hq3
          have hoa : (wr.alloc (.cells #[.int .u8 (zv : Int)] 5)).ownsRow w.heap.size 5 1 (.slice Av3 (outsN b l q).length cv3) (outsN b l q).length ((outsN b l q).map bv) := World.ownsRow.alloc hown _
          have HOA := Lib.hid hoa
          clear hlt2 hh2 hpw hzv hoa hown
          go_wp2_with (at_builtin; refine wpList_append_bytes rfl (.tmp 88) (.tmp 95) 23 rfl w.heap.size 5 i0 slice_u8 hi hz0 hz1 hz2 _ (outsN b l q).length ((outsN b l q).map bv) rfl HOA.out (wr.heap.size + 1) _ [b8 (zv : Int)] rfl hmade (by simp; omega) (by simp; omega) ?_; intro v1 w1 hown1 hg1 hat1; obtain ⟨Av4, cv4, rfl⟩ := own_form hown1)
          have hb1' : Below w.heap.size w w1 := (hbel.alloc hbs3 _).grown hg1 (by simp; omega) (fun j hj => (HOA.out.lt j hj).1)
          have HOWN := Lib.hid hown1
          clear hown1
          go_wp2
          go_ret2
          refine ⟨_, by rw [HRE.out]; rfl, ?_, hb1'⟩
          rw [HRE.out]
          unfold OwnB
          rw [List.length_append, List.map_append]
          exact HOWN.out
        · have hd1 : decide (0 < hv) = false := decide_eq_false h1
          have hd2 : decide ((0 : Int) < (hv : Int)) = false := decide_eq_false (by omega)
          have HRE : Hid (regS a b true ds = (0, outsN b l q)) := Lib.hid (by rw [HREG.out, if_pos rfl, if_neg h1, HLE.out])
          obtain ⟨Av3, cv3, hv3⟩ := hown.form
          subst hv3
          have HOWN := Lib.hid hown
          clear hown
          go_wp2
          go_ret2
          exact ⟨_, by rw [HRE.out]; rfl, by rw [HRE.out]; exact HOWN.out, hbel⟩
end Go.Proofs.YtgiljhdjknglpaaDoor

/-
  text.Regroup at any widths; the reference's bits and Regroup. Conditions: sizes within the reach.
-/
namespace Go.Proofs.YtgiljhdjknglpaaDoor
open Go.RowKit

set_option maxRecDepth 100000 in
set_option maxHeartbeats 1600000 in
theorem regroup_any (B : Nat) (x : Value) (ds : List UInt8) (f t : Int) (pad : Bool) (w : World) (hx : Byt w B x ds) (hB : B ≤ w.heap.size) (hl : ds.length ≤ 20000) :
    Calls Tryd.prog 17 #[x, .int .i64 f, .int .i64 t, .bool pad] w (RegPost w (regS f t pad ds)) := by
  by_cases hf : 1 ≤ f ∧ f ≤ 8
  · by_cases ht : 1 ≤ t ∧ t ≤ 8
    · obtain ⟨a, rfl⟩ : ∃ a : Nat, f = a := ⟨f.toNat, by omega⟩
      obtain ⟨b, rfl⟩ : ∃ b : Nat, t = b := ⟨t.toNat, by omega⟩
      exact regroup_good B x ds a b pad w hx hB hl (by omega) (by omega) (by omega) (by omega)
    · have hr := regS_out (f := f) (t := t) (ds := ds) (by omega) pad
      rw [hr]
      obtain ⟨A, c, hxf⟩ := hx.form
      subst hxf
      have W1 := Lib.hid (width_yes f w hf.1 hf.2)
      have W2 := Lib.hid (width_no t w (by omega))
      clear hr hx ht hf
      go_enter Tryd.func17, Tryd.ntmps17
      go_wp2_with fail
      refine W1.out.mono ?_
      rintro e w' ⟨rfl, rfl⟩
      go_wp2_with fail
      refine W2.out.mono ?_
      rintro e w' ⟨rfl, rfl⟩
      go_wp2
      go_ret2
      exact ⟨_, rfl, OwnB.nil _ _, Below.refl _ _⟩
  · have hr := regS_out (f := f) (t := t) (ds := ds) (by omega) pad
    rw [hr]
    obtain ⟨A, c, hxf⟩ := hx.form
    subst hxf
    have W1 := Lib.hid (width_no f w (by omega))
    clear hr hx hf
    go_enter Tryd.func17, Tryd.ntmps17
    go_wp2_with fail
    refine W1.out.mono ?_
    rintro e w' ⟨rfl, rfl⟩
    go_wp2
    go_ret2
    exact ⟨_, rfl, OwnB.nil _ _, Below.refl _ _⟩

/-- Bits, each as a byte. -/
def bytesB (l : List Nat) : List UInt8 := l.map fun x : Nat => b8 ((x : Nat) : Int)
theorem bytesB_length (l : List Nat) : (bytesB l).length = l.length := by simp [bytesB]
theorem bytesB_append (a b : List Nat) : bytesB (a ++ b) = bytesB a ++ bytesB b := by simp [bytesB]
theorem bitsV_take (n v : Nat) {m : Nat} (h : m < n) : (bitsV n v).take (m + 1) = (bitsV n v).take m ++ [v / 2 ^ (n - 1 - m) % 2] := by
  rw [List.take_add_one]
  congr 1
  unfold bitsV
  rw [List.getElem?_map, List.getElem?_range h]
  rfl

set_option maxRecDepth 100000 in
set_option maxHeartbeats 3200000 in
theorem bits_any (B : Nat) (x : Value) (ds : List UInt8) (n : Nat) (w : World) (hx : Byt w B x ds) (hB : B ≤ w.heap.size) (hl : ds.length ≤ 20000) (hn0 : 1 ≤ n) (hn1 : n ≤ 8) :
    Calls Tryd.prog 50 #[x, .int .i64 n] w fun e w' => ∃ v, e = .returned v ∧ OwnB w' w.heap.size v (bytesB (bitsAll n ds)) ∧ Below w.heap.size w w' := by
  obtain ⟨i0, hi, hz0, hz1, hz2⟩ := info_parts info_u8
  obtain ⟨A, c, hxf⟩ := hx.form
  subst hxf
  have hX := Lib.hid hx
  clear hx
  go_enter Tryd.func50, Tryd.ntmps50
  go_wp2_with fail
  go_loopw [6, 5] (fun j v wr => ∃ i : Nat, i ≤ ds.length ∧ j = .int .i64 i ∧ OwnB wr w.heap.size v (bytesB (bitsAll n (ds.take i))) ∧ Below w.heap.size w wr) (fun j _ _ => ds.length - (intOf j).toNat)
  case atStart => exact ⟨0, Nat.zero_le _, rfl, OwnB.nil _ _, Below.refl _ _⟩
  case round =>
    obtain ⟨i, hi2, rfl, hown, hbel⟩ := hrel
    by_cases hlt : i < ds.length
    · obtain ⟨A', c', e0, _, _, _, h4⟩ := hX.out
      injection e0 with e1 e2 e4
      subst e1 e4
      clear e2
      obtain ⟨bb, o, rfl, hbb, hbc⟩ := h4 (by rintro rfl; simp at hlt)
      have hci := hbc i _ (List.getElem?_eq_getElem hlt)
      obtain ⟨d, hd⟩ : ∃ d, d = ds[i] := ⟨_, rfl⟩
      rw [← hd] at hci
      have hqi : ds[i]? = some d := by rw [hd]; exact List.getElem?_eq_getElem hlt
      have hsn := bitsAll_snoc n hqi
      have hd256 := d.toNat_lt
      have HSN := Lib.hid hsn
      have HCI := Lib.hid hci
      obtain ⟨l, hle⟩ : ∃ l, l = bitsAll n (ds.take i) := ⟨_, rfl⟩
      have hll : l.length ≤ 160000 := by
        rw [hle, bitsAll_length, List.length_take]
        exact Nat.mul_le_mul (Nat.le_trans (Nat.min_le_right _ _) hl) hn1
      rw [← hle] at hown HSN
      have HLE := Lib.hid hle
      clear hbc h4 hci hd hqi hsn hle
      go_wp2_with fail
      go_loopw [7, 5] (fun j v wx => ∃ m : Nat, m ≤ n ∧ j = .int .i64 ((n : Int) - 1 - m) ∧ OwnB wx w.heap.size v (bytesB (l ++ (bitsV n d.toNat).take m)) ∧ Below w.heap.size w wx) (fun j _ _ => (intOf j + 1).toNat)
      case atStart => exact ⟨0, Nat.zero_le _, by simp, by simpa using hown, hbel⟩
      case round =>
        obtain ⟨m, hm, rfl, hown2, hbel2⟩ := hrel
        by_cases hmn : m < n
        · obtain ⟨k, hk⟩ : ∃ k, k = n - 1 - m := ⟨_, rfl⟩
          have ek : (n : Int) - 1 - (m : Int) = (k : Int) := by omega
          have htk := bitsV_take n d.toNat hmn
          rw [← hk] at htk
          have hbi : wr.cell? ⟨bb, o + i, none⟩ = some (.int .u8 (d.toNat : Int)) := (hbel2.cell (p := ⟨bb, _, none⟩) (by show bb < _; omega)).trans HCI.out
          obtain ⟨pw, hpw⟩ : ∃ pw, pw = 2 ^ k := ⟨_, rfl⟩
          have ep : (2 : Int) ^ k = (pw : Int) := by rw [hpw]; simp
          obtain ⟨y, hy⟩ : ∃ y, y = d.toNat / pw := ⟨_, rfl⟩
          have ey : (d.toNat : Int) / (pw : Int) = (y : Int) := by rw [hy]; simp
          have hy256 : y < 256 := by rw [hy]; exact Nat.lt_of_le_of_lt (Nat.div_le_self _ _) (by omega)
          rw [← hpw, ← hy] at htk
          have hk7 : k ≤ 7 := by omega
          obtain ⟨z, hz⟩ : ∃ z, z = y % 2 := ⟨_, rfl⟩
          have hz1' : z < 2 := by rw [hz]; exact Nat.mod_lt _ (by omega)
          have ez : (y : Int) % 2 = (z : Int) := by rw [hz]; simp
          have ez2 : bits .and .u8 (y : Int) 1 = (z : Int) := by
            have h := bits_mask .u8 8 (by decide) (fun n h0 h1 => by rw [IntKind.wrap_u8]; omega) 1 (by decide) (y : Int) (by omega) (by omega)
            have e1 : ((2 : Int) ^ 1 - 1) = 1 := by decide
            rw [e1] at h
            rw [h, ← ez]
            rfl
          rw [← hz] at htk
          have hmade : Byt (wr.alloc (.cells #[.int .u8 (z : Int)] 5)) (wr.heap.size + 1) (.slice (some ⟨wr.heap.size, 0, none⟩) 1 1) [b8 (z : Int)] :=
            Byt.made wr _ [_] [b8 (z : Int)] (by rw [List.map_cons, List.map_nil, bv_b8_of (by omega) (by omega)]) (by unfold maxLen; simp)
          obtain ⟨zs, hzs⟩ : ∃ zs, zs = bytesB (l ++ (bitsV n d.toNat).take m) := ⟨_, rfl⟩
          have hsn2 : bytesB (l ++ (bitsV n d.toNat).take (m + 1)) = zs ++ [b8 (z : Int)] := by
            rw [htk, ← List.append_assoc, bytesB_append, hzs]; rfl
          have hzl : zs.length ≤ 160008 := by
            rw [hzs, bytesB_length, List.length_append, List.length_take]
            omega
          rw [← hzs] at hown2
          obtain ⟨Av3, cv3, hv3⟩ := hown2.form
          subst hv3
          have hbs3 := hbel2.size
          have hoa : (wr.alloc (.cells #[.int .u8 (z : Int)] 5)).ownsRow w.heap.size 5 1 (.slice Av3 zs.length cv3) zs.length (zs.map bv) := World.ownsRow.alloc hown2 _
          have HOA := Lib.hid hoa
          have HS2 := Lib.hid hsn2
          have EK := Lib.hid ek
          rw [ek]
          clear ek hk htk hpw hy hz hzs hsn2 hoa hown2
          go_wp2_with (at_builtin; refine wpList_append_bytes rfl (.tmp 20) (.tmp 29) 23 rfl w.heap.size 5 i0 slice_u8 hi hz0 hz1 hz2 _ zs.length (zs.map bv) rfl HOA.out (wr.heap.size + 1) _ [b8 (z : Int)] rfl hmade (by simp; omega) (by simp; omega) ?_; intro v1 w1 hown1 hg1 hat1)
          have hb1' : Below w.heap.size w w1 := (hbel2.alloc hbs3 _).grown hg1 (by simp; omega) (fun j hj => (HOA.out.lt j hj).1)
          refine ⟨⟨m + 1, by omega, congrArg (Value.int .i64) (by have := EK.out; omega), ?_, hb1'⟩, by simp [intOf]⟩
          rw [HS2.out]
          unfold OwnB
          rw [List.length_append, List.map_append]
          exact hown1
        · obtain rfl : m = n := by omega
          rw [List.take_of_length_le (by rw [bitsV_length]; exact Nat.le_refl _), ← HSN.out] at hown2
          have HO2 := Lib.hid hown2
          have e0 : (m : Int) - 1 - (m : Int) = -1 := by omega
          rw [e0]
          clear hown2 e0
          go_wp2
          exact ⟨⟨i + 1, by omega, by go_num, HO2.out, hbel2⟩, by simp [intOf]; omega⟩
    · have hie : ds.take i = ds := List.take_of_length_le (by omega)
      rw [hie] at hown
      have HO := Lib.hid hown
      clear hie hown
      go_wp2
      refine bodyPost_ret (results_tmp rfl _ _ _) rfl ?_
      exact ⟨_, rfl, HO.out, hbel⟩
end Go.Proofs.YtgiljhdjknglpaaDoor

/-
  Addresses of witness programs, as lists of bytes: what is written is read again, and what is read has as many letters when it is written again. Conditions: none (plain mathematics).
-/
namespace Go.Proofs.YtgiljhdjknglpaaDoor
open Go.RowKit

/-- May a program of this version have so many bytes? -/
def fitsB (v : Int) (n : Nat) : Bool := if v = 0 then (n == 20 || n == 32) else (decide (2 ≤ n) && decide (n ≤ 40))
theorem fitsB_le {v : Int} {n : Nat} (h : fitsB v n = true) : 2 ≤ n ∧ n ≤ 40 := by
  unfold fitsB at h
  split at h
  · simp only [Bool.or_eq_true, beq_iff_eq] at h
    omega
  · simp only [Bool.and_eq_true, decide_eq_true_eq] at h
    omega
/-- What writing answers. -/
def segS (h : List UInt8) (ver : Int) (p : List UInt8) : Int × List UInt8 :=
  if ver < 0 ∨ 16 < ver then (1, []) else if fitsB ver p.length = false then (2, []) else bechS h (b8 ver :: (regS 8 5 true p).2) (decide (0 < ver))
structure SegR where
  e : Int
  v : Int
  p : List UInt8
def noG (e : Int) : SegR := ⟨e, 0, []⟩
def segR (hrp : List UInt8) (r : FromR) : SegR :=
  if r.e ≠ 0 then noG r.e else if r.h ≠ hrp then noG 7 else
  match r.d with
  | [] => noG 3
  | v :: vs => if 16 < v.toNat ∨ r.m ≠ decide (0 < v.toNat) then noG 3 else if (regS 5 8 false vs).1 ≠ 0 then noG (regS 5 8 false vs).1 else
      if fitsB v.toNat (regS 5 8 false vs).2.length = false then noG 2 else ⟨0, v.toNat, (regS 5 8 false vs).2⟩
/-- What reading answers. -/
def fromG (hrp cs : List UInt8) : SegR := segR hrp (fromS cs)

theorem small8 (p : List UInt8) : ∀ d ∈ p, d.toNat < 2 ^ (8 : Int).toNat := fun d _ => d.toNat_lt
theorem reg85 (p : List UInt8) : (regS 8 5 true p).1 = 0 := by
  unfold regS
  rw [if_neg (by omega), if_neg (by rintro ⟨d, hd, h⟩; have := small8 p d hd; omega)]
  simp
theorem reg85_back (p : List UInt8) : regS 5 8 false (regS 8 5 true p).2 = (0, p) := by
  have := reg_back (f := 8) (t := 5) (ds := p) (by omega) (by omega) (by omega) (by omega) (by omega) (fun d _ => d.toNat_lt)
  exact this
theorem reg85_len (p : List UInt8) : (regS 8 5 true p).2.length = (p.length * 8 + 4) / 5 := by
  unfold regS
  rw [if_neg (by omega), if_neg (by rintro ⟨d, hd, h⟩; have := small8 p d hd; omega)]
  have e8 : (8 : Int).toNat = 8 := rfl
  have e5 : (5 : Int).toNat = 5 := rfl
  rw [e8, e5]
  simp only [if_true, List.length_drop, bitsAll_length]
  split
  · rw [List.length_append, outsN_length]
    simp only [List.length_cons, List.length_nil]
    omega
  · rw [outsN_length]
    omega
theorem reg58_len {vs : List UInt8} (h : (regS 5 8 false vs).1 = 0) : (regS 5 8 false vs).2.length = vs.length * 5 / 8 ∧ vs.length * 5 - 8 * (vs.length * 5 / 8) < 5 := by
  unfold regS at h ⊢
  rw [if_neg (by omega)] at h ⊢
  split at h
  · cases h
  · next h2 =>
    rw [if_neg h2]
    have e8 : (8 : Int).toNat = 8 := rfl
    have e5 : (5 : Int).toNat = 5 := rfl
    rw [e8, e5] at h ⊢
    simp only [Bool.false_eq_true, if_false, List.length_drop, bitsAll_length] at h ⊢
    split at h
    · cases h
    · next h3 =>
      rw [if_neg h3, outsN_length]
      exact ⟨rfl, by omega⟩
theorem reg85_small (p : List UInt8) : ∀ d ∈ (regS 8 5 true p).2, d.toNat < 32 := by
  unfold regS
  rw [if_neg (by omega), if_neg (by rintro ⟨d, hd, h⟩; have := small8 p d hd; omega)]
  have e8 : (8 : Int).toNat = 8 := rfl
  have e5 : (5 : Int).toNat = 5 := rfl
  rw [e8, e5]
  simp only [if_true]
  have hbin := bitsAll_bin 8 p
  intro d hd
  split at hd
  · rcases List.mem_append.1 hd with h | h
    · exact outs_small hbin (by omega) d h
    · rw [List.mem_singleton.1 h]
      have hcb : Bin ((bitsAll 8 p).drop (5 * ((bitsAll 8 p).length / 5)) ++ List.replicate (5 - ((bitsAll 8 p).drop (5 * ((bitsAll 8 p).length / 5))).length) 0) := by
        intro x hx
        rcases List.mem_append.1 hx with h | h
        · exact hbin x (List.mem_of_mem_drop h)
        · rw [List.eq_of_mem_replicate h]; omega
      have hv := valN_lt hcb
      have hln : ((bitsAll 8 p).drop (5 * ((bitsAll 8 p).length / 5)) ++ List.replicate (5 - ((bitsAll 8 p).drop (5 * ((bitsAll 8 p).length / 5))).length) 0).length = 5 := by
        rw [List.length_append, List.length_replicate, List.length_drop]
        omega
      rw [hln] at hv
      rw [b8_of_lt (by omega)]
      exact hv
  · exact outs_small hbin (by omega) d hd

theorem segS_ok {h p : List UInt8} {ver : Int} (he : (segS h ver p).1 = 0) : 0 ≤ ver ∧ ver ≤ 16 ∧ fitsB ver p.length = true ∧ segS h ver p = bechS h (b8 ver :: (regS 8 5 true p).2) (decide (0 < ver)) := by
  unfold segS at he ⊢
  split at he
  · cases he
  · next h1 =>
    rw [if_neg h1]
    split at he
    · cases he
    · next h2 =>
      rw [if_neg h2]
      exact ⟨by omega, by omega, by cases hq : fitsB ver p.length <;> simp_all, rfl⟩
/-- What is written is read again. -/
theorem seg_back {h p : List UInt8} {ver : Int} (he : (segS h ver p).1 = 0) : fromG h (segS h ver p).2 = ⟨0, ver, p⟩ := by
  obtain ⟨h0, h16, hf, hb⟩ := segS_ok he
  rw [hb] at he ⊢
  unfold fromG
  rw [bech_back he]
  unfold segR
  rw [if_neg (by simp), if_neg (by simp)]
  have hv : ((b8 ver).toNat : Int) = ver := by have := b8_toNat ver; omega
  have hd : decide (0 < ver) = decide (0 < (b8 ver).toNat) := by
    by_cases h : 0 < ver
    · rw [decide_eq_true h, decide_eq_true (by omega)]
    · rw [decide_eq_false h, decide_eq_false (by omega)]
  simp only [reg85_back, hd]
  rw [if_neg (by rintro (h | h); · omega
                 · exact h rfl), if_neg (by simp), hv, if_neg (by rw [hf]; simp)]

theorem sumR_ok {h v : List UInt8} (he : (sumR h v).e = 0) : (sumR h v).h = h ∧ (sumR h v).d = v.take (v.length - 6) := by
  unfold sumR at he ⊢
  split at he
  · next h1 => rw [if_pos h1]; exact ⟨rfl, rfl⟩
  · next h1 =>
    rw [if_neg h1]
    split at he
    · next h2 => rw [if_pos h2]; exact ⟨rfl, rfl⟩
    · cases he
theorem fromS_ok {cs : List UInt8} (he : (fromS cs).e = 0) : cs.length ≤ 90 ∧ partOk (fromS cs).h = true ∧ (∀ v ∈ (fromS cs).d, v.toNat < 32) ∧ (fromS cs).h.length + (fromS cs).d.length + 7 = cs.length := by
  by_cases hl : 90 < cs.length
  · rw [fromS_size hl] at he; cases he
  · cases hs : splitOk cs with
    | false => rw [fromS_form hl hs] at he; cases he
    | true =>
      rw [fromS_sum hl hs] at he ⊢
      obtain ⟨e1, e2⟩ := sumR_ok he
      rw [e1, e2]
      have hs' := hs
      unfold splitOk at hs
      simp only [Bool.and_eq_true, decide_eq_true_eq] at hs
      obtain ⟨a1, a2, a3, a4, a5⟩ := hs
      rcases oneAt_spec (lowS cs) with ⟨e, _⟩ | ⟨i, e, hi, _⟩
      · omega
      · have hil := (List.getElem?_eq_some_iff.1 hi).1
        rw [lowS_length] at hil
        have hh : headS cs = (lowS cs).take i := by unfold headS; rw [e, Int.toNat_natCast]
        have ht : tailS cs = (lowS cs).drop (i + 1) := by unfold tailS; rw [e, Int.toNat_natCast]
        have hvl : (valsS cs).length = cs.length - (i + 1) := by unfold valsS; rw [placesB_length, ht, List.length_drop, lowS_length]
        have hhl : (headS cs).length = i := by rw [hh, List.length_take, lowS_length]; omega
        rw [ht, List.length_drop, lowS_length] at a4
        refine ⟨by omega, ?_, ?_, ?_⟩
        · unfold partOk
          simp only [Bool.and_eq_true, Bool.not_eq_true', List.isEmpty_eq_false_iff]
          refine ⟨by intro h0; rw [h0] at hhl; simp at hhl; omega, ?_, ?_⟩
          · rw [hh, List.all_eq_true]
            intro c hc
            have hc2 := List.mem_of_mem_take hc
            unfold lowS at hc2
            obtain ⟨d, hd, rfl⟩ := List.mem_map.1 hc2
            exact lowerB_ok d (List.all_eq_true.1 a1 d hd)
          · rw [hh, List.any_eq_false]
            intro c hc
            have hc2 := List.mem_of_mem_take hc
            unfold lowS at hc2
            obtain ⟨d, hd, rfl⟩ := List.mem_map.1 hc2
            rw [lowerB_notUp]
            simp
        · intro v hv
          have hv2 := List.mem_of_mem_take hv
          unfold valsS placesB at hv2
          obtain ⟨c, hc, rfl⟩ := List.mem_map.1 hv2
          have hk := List.all_eq_true.1 a5 c hc
          unfold knownB at hk
          have hk0 : 0 ≤ posB l32 c := by simpa using hk
          have hlt : posB l32 c < 32 := by
            obtain ⟨o, ho⟩ : ∃ o : Nat, posB l32 c = o := ⟨(posB l32 c).toNat, by omega⟩
            have h1 := (List.getElem?_eq_some_iff.1 (Lib.indexByte_some (l := l32.data.toList) (by exact ho)).1).1
            have h2 : l32.data.toList.length = 32 := by decide
            omega
          have := b8_toNat (posB l32 c)
          omega
        · rw [List.length_take, hvl, hhl]
          omega
/-- What is read may be written, and has as many letters. -/
theorem seg_again {hrp cs : List UInt8} (he : (fromG hrp cs).e = 0) : (segS hrp (fromG hrp cs).v (fromG hrp cs).p).1 = 0 ∧ (segS hrp (fromG hrp cs).v (fromG hrp cs).p).2.length = cs.length ∧ partOk hrp = true ∧ hrp.length ≤ 83 := by
  unfold fromG segR at he ⊢
  split at he
  · next h => exact absurd he h
  · next h1 =>
    rw [if_neg h1]
    have h1' : (fromS cs).e = 0 := by omega
    obtain ⟨f1, f2, f3, f4⟩ := fromS_ok h1'
    split at he
    · cases he
    · next h2 =>
      rw [if_neg h2]
      have h2' : (fromS cs).h = hrp := by simpa using h2
      rw [h2'] at f2 f4
      revert he
      split
      · intro he; cases he
      · next v vs hd =>
        intro he
        rw [hd] at f3 f4
        split at he
        · cases he
        · next h3 =>
          rw [if_neg h3]
          split at he
          · next h4 => exact absurd he h4
          · next h4 =>
            rw [if_neg h4]
            split at he
            · cases he
            · next h5 =>
              rw [if_neg h5]
              have h4' : (regS 5 8 false vs).1 = 0 := by omega
              obtain ⟨g1, g2⟩ := reg58_len h4'
              have g3 := reg85_len (regS 5 8 false vs).2
              rw [g1] at g3
              have hn : ((vs.length * 5 / 8) * 8 + 4) / 5 = vs.length := by omega
              rw [hn] at g3
              have hfit : fitsB (v.toNat : Int) (regS 5 8 false vs).2.length = true := by cases hq : fitsB (v.toNat : Int) (regS 5 8 false vs).2.length <;> simp_all
              have hbv : b8 ((v.toNat : Nat) : Int) = v := by apply UInt8.toNat_inj.1; exact b8_nat32 _ v.toNat_lt
              simp only [List.length_cons] at f4
              have hseg : segS hrp (v.toNat : Int) (regS 5 8 false vs).2 = (0, hrp ++ [49] ++ letters l32 ((v :: (regS 8 5 true (regS 5 8 false vs).2).2) ++ closeB hrp (v :: (regS 8 5 true (regS 5 8 false vs).2).2) (decide (0 < (v.toNat : Int))))) := by
                unfold segS
                rw [if_neg (by omega), if_neg (by rw [hfit]; simp), hbv]
                refine bechS_good ?_ f2 ?_ _
                · rw [List.length_cons, g3]; omega
                · refine wide_of (fun x hx => ?_)
                  rcases List.mem_cons.1 hx with rfl | hx
                  · exact f3 _ List.mem_cons_self
                  · exact reg85_small _ x hx
              refine ⟨by rw [hseg], ?_, f2, by omega⟩
              rw [hseg]
              show (hrp ++ [49] ++ letters l32 _).length = _
              rw [splitOk_len, List.length_append, closeB_length, List.length_cons, g3]
              omega
end Go.Proofs.YtgiljhdjknglpaaDoor
