/-
  text.Regroup at any widths; the reference's bits and Regroup. Conditions: sizes within the reach.
-/
import Derived.Test.YtpaafkhlelljcaaDoorGrp
namespace Go.Proofs.YtpaafkhlelljcaaDoor
open Go.RowKit

set_option maxRecDepth 100000 in
set_option maxHeartbeats 1600000 in
theorem regroup_any (B : Nat) (x : Value) (ds : List UInt8) (f t : Int) (pad : Bool) (w : World) (hx : Byt w B x ds) (hB : B ≤ w.heap.size) (hl : ds.length ≤ 20000) :
    Calls Tryd.prog 26 #[x, .int .i64 f, .int .i64 t, .bool pad] w (RegPost w (regS f t pad ds)) := by
  by_cases hf : 1 ≤ f ∧ f ≤ 8
  · by_cases ht : 1 ≤ t ∧ t ≤ 8
    · obtain ⟨a, rfl⟩ : ∃ a : Nat, f = a := ⟨f.toNat, by omega⟩
      obtain ⟨b, rfl⟩ : ∃ b : Nat, t = b := ⟨t.toNat, by omega⟩
      exact regroup_good B x ds a b pad w hx hB hl (by omega) (by omega) (by omega) (by omega)
    · have hr := regS_out (f := f) (t := t) (ds := ds) (by omega) pad
      rw [hr]
      obtain ⟨A, c, hxf⟩ := hx.form
      subst hxf
      have W1 := Lib.hid (width_yes f w hf.1 hf.2)
      have W2 := Lib.hid (width_no t w (by omega))
      clear hr hx ht hf
      go_enter Tryd.func26, Tryd.ntmps26
      go_wp2_with fail
      refine W1.out.mono ?_
      rintro e w' ⟨rfl, rfl⟩
      go_wp2_with fail
      refine W2.out.mono ?_
      rintro e w' ⟨rfl, rfl⟩
      go_wp2
      go_ret2
      exact ⟨_, rfl, OwnB.nil _ _, Below.refl _ _⟩
  · have hr := regS_out (f := f) (t := t) (ds := ds) (by omega) pad
    rw [hr]
    obtain ⟨A, c, hxf⟩ := hx.form
    subst hxf
    have W1 := Lib.hid (width_no f w (by omega))
    clear hr hx hf
    go_enter Tryd.func26, Tryd.ntmps26
    go_wp2_with fail
    refine W1.out.mono ?_
    rintro e w' ⟨rfl, rfl⟩
    go_wp2
    go_ret2
    exact ⟨_, rfl, OwnB.nil _ _, Below.refl _ _⟩

/-- Bits, each as a byte. -/
def bytesB (l : List Nat) : List UInt8 := l.map fun x : Nat => b8 ((x : Nat) : Int)
theorem bytesB_length (l : List Nat) : (bytesB l).length = l.length := by simp [bytesB]
theorem bytesB_append (a b : List Nat) : bytesB (a ++ b) = bytesB a ++ bytesB b := by simp [bytesB]
theorem bitsV_take (n v : Nat) {m : Nat} (h : m < n) : (bitsV n v).take (m + 1) = (bitsV n v).take m ++ [v / 2 ^ (n - 1 - m) % 2] := by
  rw [List.take_add_one]
  congr 1
  unfold bitsV
  rw [List.getElem?_map, List.getElem?_range h]
  rfl

set_option maxRecDepth 100000 in
set_option maxHeartbeats 3200000 in
theorem bits_any (B : Nat) (x : Value) (ds : List UInt8) (n : Nat) (w : World) (hx : Byt w B x ds) (hB : B ≤ w.heap.size) (hl : ds.length ≤ 20000) (hn0 : 1 ≤ n) (hn1 : n ≤ 8) :
    Calls Tryd.prog 60 #[x, .int .i64 n] w fun e w' => ∃ v, e = .returned v ∧ OwnB w' w.heap.size v (bytesB (bitsAll n ds)) ∧ Below w.heap.size w w' := by
  obtain ⟨i0, hi, hz0, hz1, hz2⟩ := info_parts info_u8
  obtain ⟨A, c, hxf⟩ := hx.form
  subst hxf
  have hX := Lib.hid hx
  clear hx
  go_enter Tryd.func60, Tryd.ntmps60
  go_wp2_with fail
  go_loopw [6, 5] (fun j v wr => ∃ i : Nat, i ≤ ds.length ∧ j = .int .i64 i ∧ OwnB wr w.heap.size v (bytesB (bitsAll n (ds.take i))) ∧ Below w.heap.size w wr) (fun j _ _ => ds.length - (intOf j).toNat)
  case atStart => exact ⟨0, Nat.zero_le _, rfl, OwnB.nil _ _, Below.refl _ _⟩
  case round =>
    obtain ⟨i, hi2, rfl, hown, hbel⟩ := hrel
    by_cases hlt : i < ds.length
    · obtain ⟨A', c', e0, _, _, _, h4⟩ := hX.out
      injection e0 with e1 e2 e4
      subst e1 e4
      clear e2
      obtain ⟨bb, o, rfl, hbb, hbc⟩ := h4 (by rintro rfl; simp at hlt)
      have hci := hbc i _ (List.getElem?_eq_getElem hlt)
      obtain ⟨d, hd⟩ : ∃ d, d = ds[i] := ⟨_, rfl⟩
      rw [← hd] at hci
      have hqi : ds[i]? = some d := by rw [hd]; exact List.getElem?_eq_getElem hlt
      have hsn := bitsAll_snoc n hqi
      have hd256 := d.toNat_lt
      have HSN := Lib.hid hsn
      have HCI := Lib.hid hci
      obtain ⟨l, hle⟩ : ∃ l, l = bitsAll n (ds.take i) := ⟨_, rfl⟩
      have hll : l.length ≤ 160000 := by
        rw [hle, bitsAll_length, List.length_take]
        exact Nat.mul_le_mul (Nat.le_trans (Nat.min_le_right _ _) hl) hn1
      rw [← hle] at hown HSN
      have HLE := Lib.hid hle
      clear hbc h4 hci hd hqi hsn hle
      go_wp2_with fail
      go_loopw [7, 5] (fun j v wx => ∃ m : Nat, m ≤ n ∧ j = .int .i64 ((n : Int) - 1 - m) ∧ OwnB wx w.heap.size v (bytesB (l ++ (bitsV n d.toNat).take m)) ∧ Below w.heap.size w wx) (fun j _ _ => (intOf j + 1).toNat)
      case atStart => exact ⟨0, Nat.zero_le _, by simp, by simpa using hown, hbel⟩
      case round =>
        obtain ⟨m, hm, rfl, hown2, hbel2⟩ := hrel
        by_cases hmn : m < n
        · obtain ⟨k, hk⟩ : ∃ k, k = n - 1 - m := ⟨_, rfl⟩
          have ek : (n : Int) - 1 - (m : Int) = (k : Int) := by omega
          have htk := bitsV_take n d.toNat hmn
          rw [← hk] at htk
          have hbi : wr.cell? ⟨bb, o + i, none⟩ = some (.int .u8 (d.toNat : Int)) := (hbel2.cell (p := ⟨bb, _, none⟩) (by show bb < _; omega)).trans HCI.out
          obtain ⟨pw, hpw⟩ : ∃ pw, pw = 2 ^ k := ⟨_, rfl⟩
          have ep : (2 : Int) ^ k = (pw : Int) := by rw [hpw]; simp
          obtain ⟨y, hy⟩ : ∃ y, y = d.toNat / pw := ⟨_, rfl⟩
          have ey : (d.toNat : Int) / (pw : Int) = (y : Int) := by rw [hy]; simp
          have hy256 : y < 256 := by rw [hy]; exact Nat.lt_of_le_of_lt (Nat.div_le_self _ _) (by omega)
          rw [← hpw, ← hy] at htk
          have hk7 : k ≤ 7 := by omega
          obtain ⟨z, hz⟩ : ∃ z, z = y % 2 := ⟨_, rfl⟩
          have hz1' : z < 2 := by rw [hz]; exact Nat.mod_lt _ (by omega)
          have ez : (y : Int) % 2 = (z : Int) := by rw [hz]; simp
          have ez2 : bits .and .u8 (y : Int) 1 = (z : Int) := by
            have h := bits_mask .u8 8 (by decide) (fun n h0 h1 => by rw [IntKind.wrap_u8]; omega) 1 (by decide) (y : Int) (by omega) (by omega)
            have e1 : ((2 : Int) ^ 1 - 1) = 1 := by decide
            rw [e1] at h
            rw [h, ← ez]
            rfl
          rw [← hz] at htk
          have hmade : Byt (wr.alloc (.cells #[.int .u8 (z : Int)] 5)) (wr.heap.size + 1) (.slice (some ⟨wr.heap.size, 0, none⟩) 1 1) [b8 (z : Int)] :=
            Byt.made wr _ [_] [b8 (z : Int)] (by rw [List.map_cons, List.map_nil, bv_b8_of (by omega) (by omega)]) (by unfold maxLen; simp)
          obtain ⟨zs, hzs⟩ : ∃ zs, zs = bytesB (l ++ (bitsV n d.toNat).take m) := ⟨_, rfl⟩
          have hsn2 : bytesB (l ++ (bitsV n d.toNat).take (m + 1)) = zs ++ [b8 (z : Int)] := by
            rw [htk, ← List.append_assoc, bytesB_append, hzs]; rfl
          have hzl : zs.length ≤ 160008 := by
            rw [hzs, bytesB_length, List.length_append, List.length_take]
            omega
          rw [← hzs] at hown2
          obtain ⟨Av3, cv3, hv3⟩ := hown2.form
          subst hv3
          have hbs3 := hbel2.size
          have hoa : (wr.alloc (.cells #[.int .u8 (z : Int)] 5)).ownsRow w.heap.size 5 1 (.slice Av3 zs.length cv3) zs.length (zs.map bv) := World.ownsRow.alloc hown2 _
          have HOA := Lib.hid hoa
          have HS2 := Lib.hid hsn2
          have EK := Lib.hid ek
          rw [ek]
          clear ek hk htk hpw hy hz hzs hsn2 hoa hown2
          go_wp2_with (at_builtin; refine wpList_append_bytes rfl (.tmp 20) (.tmp 29) 22 rfl w.heap.size 5 i0 slice_u8 hi hz0 hz1 hz2 _ zs.length (zs.map bv) rfl HOA.out (wr.heap.size + 1) _ [b8 (z : Int)] rfl hmade (by simp; omega) (by simp; omega) ?_; intro v1 w1 hown1 hg1 hat1)
          have hb1' : Below w.heap.size w w1 := (hbel2.alloc hbs3 _).grown hg1 (by simp; omega) (fun j hj => (HOA.out.lt j hj).1)
          refine ⟨⟨m + 1, by omega, congrArg (Value.int .i64) (by have := EK.out; omega), ?_, hb1'⟩, by simp [intOf]⟩
          rw [HS2.out]
          unfold OwnB
          rw [List.length_append, List.map_append]
          exact hown1
        · obtain rfl : m = n := by omega
          rw [List.take_of_length_le (by rw [bitsV_length]; exact Nat.le_refl _), ← HSN.out] at hown2
          have HO2 := Lib.hid hown2
          have e0 : (m : Int) - 1 - (m : Int) = -1 := by omega
          rw [e0]
          clear hown2 e0
          go_wp2
          exact ⟨⟨i + 1, by omega, by go_num, HO2.out, hbel2⟩, by simp [intOf]; omega⟩
    · have hie : ds.take i = ds := List.take_of_length_le (by omega)
      rw [hie] at hown
      have HO := Lib.hid hown
      clear hie hown
      go_wp2
      refine bodyPost_ret (results_tmp rfl _ _ _) rfl ?_
      exact ⟨_, rfl, HO.out, hbel⟩
end Go.Proofs.YtpaafkhlelljcaaDoor
