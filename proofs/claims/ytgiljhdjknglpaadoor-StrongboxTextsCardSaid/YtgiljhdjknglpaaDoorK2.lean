/-
  Texts joined: Places, Step, ChkPure. Conditions: those of each.
-/
import Derived.Test.YtgiljhdjknglpaaDoorK1
import Derived.Lib.Bytealg
import Derived.Laws.Bits64
import Derived.Lib.Zigzag
/-
  text.places: where each byte of a text stands in an alphabet. Conditions: sizes within the reach.
-/
namespace Go.Proofs.YtgiljhdjknglpaaDoor
open Go.RowKit

set_option maxRecDepth 100000 in
set_option maxHeartbeats 800000 in
theorem slite_any (s : ByteArray) (c : Int) (w : World) :
    Calls Tryd.prog 66 #[.string s, .int .u8 c] w fun e w' => e = .returned (.int .i64 (Lib.indexByte s.data.toList c.toNat.toUInt8)) ∧ w = w' := by
  go_enter Tryd.func66, Tryd.ntmps66
  go_wp2
  rw [run_callFunc_extern Tryd.func76 (by kernel_rfl) (by kernel_rfl) (by kernel_rfl) (e := Extern.BytealgIndexByte.indexByte) (by kernel_rfl), Lib.run_indexByteString]
  simp only [Result.andThen]
  rw [Oper.upon_value]
  go_wp2
  go_ret
  exact ⟨rfl, rfl⟩

set_option maxRecDepth 100000 in
set_option maxHeartbeats 800000 in
theorem sbyte_any (s : ByteArray) (c : Int) (w : World) :
    Calls Tryd.prog 52 #[.string s, .int .u8 c] w fun e w' => e = .returned (.int .i64 (Lib.indexByte s.data.toList c.toNat.toUInt8)) ∧ w = w' := by
  have C := Lib.hid (slite_any s c)
  go_enter Tryd.func52, Tryd.ntmps52
  go_wp2_with fail
  refine (C.out _).mono ?_
  rintro e w' ⟨rfl, rfl⟩
  go_wp2
  go_ret
  exact ⟨rfl, rfl⟩

/-- Where a byte stands. -/
def posB (al : ByteArray) (c : UInt8) : Int := Lib.indexByte al.data.toList c
def placesB (al : ByteArray) (cs : List UInt8) : List UInt8 := cs.map fun c => b8 (posB al c)
theorem placesB_length (al : ByteArray) (cs : List UInt8) : (placesB al cs).length = cs.length := by simp [placesB]

/-- What places answers. -/
def PlacesPost (w : World) (al : ByteArray) (cs : List UInt8) (e : Ending) (w' : World) : Prop :=
  Below w.heap.size w w' ∧ ((∀ c ∈ cs, 0 ≤ posB al c) ∧ e = .returned (.tuple #[.slice (some ⟨w.heap.size, 0, none⟩) cs.length cs.length, .bool true]) ∧ Row w' w.heap.size (placesB al cs) ∨
    (∃ c ∈ cs, posB al c < 0) ∧ e = .returned (.tuple #[.slice none 0 0, .bool false]))

theorem u8_back (c : UInt8) : ((c.toNat : Int)).toNat.toUInt8 = c := by simp

set_option maxRecDepth 100000 in
set_option maxHeartbeats 1600000 in
theorem places_any (s al : ByteArray) (w : World) (hl : s.size ≤ 60000) (hal : al.size ≤ 255) :
    Calls Tryd.prog 31 #[.string s, .string al] w (PlacesPost w al s.data.toList) := by
  have hmk := fun W => make_bytes W s.size (s.size : Int) rfl (by omega)
  obtain ⟨ls, hls⟩ : ∃ ls, ls = placesB al s.data.toList := ⟨_, rfl⟩
  have hll : ls.length = s.size := by rw [hls, placesB_length]; rfl
  have HLS := Lib.hid hls
  have HLL := Lib.hid hll
  clear hls hll
  go_enter Tryd.func31, Tryd.ntmps31
  go_wp2_with fail
  clear hmk
  go_loopw [14] (fun j wr => ∃ i : Nat, i ≤ s.size ∧ j = .int .i64 i ∧ FillB w w.heap.size i ls wr ∧ ∀ c ∈ s.data.toList.take i, 0 ≤ posB al c) (fun j _ => s.size - (intOf j).toNat)
  case atStart => exact ⟨0, Nat.zero_le _, rfl, ⟨_, rfl, by simpa [HLL.out] using row_new w s.size, (Below.refl _ _).alloc (Nat.le_refl _) _⟩, by simp⟩
  case round =>
    obtain ⟨i, hi, rfl, hfill, hall⟩ := hrel
    by_cases hlt : i < s.size
    · obtain ⟨zs, hz, hrow, hbel⟩ := hfill
      have hcell : wr.cell? ⟨w.heap.size, i, none⟩ = some (.int .u8 0) := hrow.cell (fillB_zero (by rw [HLL.out]; exact hlt) hz)
      have hfree := hrow.free i
      have hsi : s.data.toList[i]? = some (s[i]'hlt) := Lib.data_getElem? s i hlt
      have hC := sbyte_any al ((s[i]'hlt).toNat : Int)
      rw [u8_back] at hC
      have hp : Lib.indexByte al.data.toList (s[i]'hlt) = posB al (s[i]'hlt) := rfl
      rw [hp] at hC
      have hge := Lib.indexByte_ge al.data.toList (s[i]'hlt)
      rw [hp] at hge
      have hle : posB al (s[i]'hlt) < al.size ∨ posB al (s[i]'hlt) = -1 := by
        by_cases h : posB al (s[i]'hlt) = -1
        · exact .inr h
        · obtain ⟨o, ho⟩ : ∃ o : Nat, posB al (s[i]'hlt) = o := ⟨(posB al (s[i]'hlt)).toNat, by omega⟩
          have := (List.getElem?_eq_some_iff.1 (Lib.indexByte_some (by rw [hp]; exact ho)).1).1
          exact .inl (by rw [ho]; have h2 : al.data.toList.length = al.size := rfl; omega)
      have hat : ls[i]? = some (b8 (posB al (s[i]'hlt))) := by
        rw [HLS.out]; unfold placesB; rw [List.getElem?_map, hsi]; rfl
      obtain ⟨q, hq⟩ : ∃ q, q = posB al (s[i]'hlt) := ⟨_, rfl⟩
      rw [← hq] at hC hge hle hat
      have htk : s.data.toList.take (i + 1) = s.data.toList.take i ++ [s[i]'hlt] := by
        rw [List.take_add_one, hsi]; rfl
      have HC := Lib.hid hC
      have HQ := Lib.hid hq
      have HZ := Lib.hid hz
      have HR := Lib.hid hrow
      have HA := Lib.hid hat
      have HT := Lib.hid htk
      have HS := Lib.hid hsi
      clear hC hq hz hrow hat hp htk hsi
      by_cases hneg : q < 0
      · have hd : decide (q < 0) = true := decide_eq_true hneg
        go_wp2_with fail
        refine (HC.out _).mono ?_
        rintro e w' ⟨rfl, rfl⟩
        go_wp2
        go_ret2
        exact ⟨hbel, .inr ⟨⟨s[i]'hlt, List.mem_of_getElem? HS.out, by rw [← HQ.out]; exact hneg⟩, rfl⟩⟩
      · have hd : decide (q < 0) = false := decide_eq_false hneg
        have hw : IntKind.u8.wrap q = q := by rw [IntKind.wrap_u8]; omega
        go_wp2_with fail
        refine (HC.out _).mono ?_
        rintro e w' ⟨rfl, rfl⟩
        go_wp2
        refine ⟨⟨i + 1, by omega, by go_num, fillB_next (by rw [HLL.out]; exact hlt) HA.out HZ.out ?_ (hbel.setCell (Nat.le_refl _) _), ?_⟩, by simp [intOf]; omega⟩
        · have h1 := HR.out.set (i := i) (b8 q)
          rw [bv_b8_of (by omega) (by omega)] at h1
          exact h1
        · intro c hc
          rw [HT.out] at hc
          rcases List.mem_append.1 hc with h | h
          · exact hall c h
          · rw [List.mem_singleton.1 h, ← HQ.out]; omega
    · have hie : i = ls.length := by rw [HLL.out]; omega
      have hall2 : ∀ c ∈ s.data.toList, 0 ≤ posB al c := fun c hc => hall c (by rwa [List.take_of_length_le (by have h2 : s.data.toList.length = s.size := rfl; omega)])
      rw [hie] at hfill
      have HF := Lib.hid (fillB_end hfill)
      have HA := Lib.hid hall2
      clear hie hfill hall hall2
      go_wp2
      go_ret2
      exact ⟨HF.out.2, .inl ⟨HA.out, rfl, by rw [← HLS.out]; exact HF.out.1⟩⟩

end Go.Proofs.YtgiljhdjknglpaaDoor

/-
  text.code.step, for the descriptors' code: how a checksum takes values in. Conditions: the numbers are below 2^64.
-/
namespace Go.Proofs.YtgiljhdjknglpaaDoor
open Go.RowKit

/-- The m-th of the five numbers. -/
structure Five where
  x0 : Int
  x1 : Int
  x2 : Int
  x3 : Int
  x4 : Int
def Five.at_ (X : Five) : Nat → Int
  | 0 => X.x0
  | 1 => X.x1
  | 2 => X.x2
  | 3 => X.x3
  | _ => X.x4

/-- Behind m of the five bits. -/
def mixI (X : Five) (up c : Int) : Nat → Int
  | 0 => c
  | m + 1 => if bits .and .u64 (up / 2 ^ m) 1 = 1 then bits .xor .u64 (mixI X up c m) (X.at_ m) else mixI X up c m
/-- A value more. -/
def stepI (X : Five) (c : Int) (v : UInt8) : Int := mixI X (c / 34359738368) (bits .xor .u64 (IntKind.u64.wrap (bits .and .u64 c 34359738367 * 32)) (v.toNat : Int)) 5

theorem bits_u64 (op : BinOp) (a b : Int) : 0 ≤ bits op .u64 a b ∧ bits op .u64 a b < 18446744073709551616 := by
  unfold bits
  have : ∀ n : Int, 0 ≤ IntKind.u64.wrap n ∧ IntKind.u64.wrap n < 18446744073709551616 := fun n => by rw [IntKind.wrap_u64]; omega
  exact this _
theorem mixI_bd (X : Five) (up c : Int) (h0 : 0 ≤ c) (h1 : c < 18446744073709551616) : ∀ m, 0 ≤ mixI X up c m ∧ mixI X up c m < 18446744073709551616
  | 0 => ⟨h0, h1⟩
  | m + 1 => by
    unfold mixI
    split
    · exact bits_u64 _ _ _
    · exact mixI_bd X up c h0 h1 m
theorem stepI_bd (X : Five) (c : Int) (v : UInt8) : 0 ≤ stepI X c v ∧ stepI X c v < 18446744073709551616 := by
  unfold stepI
  exact mixI_bd _ _ _ (bits_u64 _ _ _).1 (bits_u64 _ _ _).2 5

theorem mixy {X : Five} {up c : Int} (m : Nat) (d : Int) (hd : up / 2 ^ m = d) (h : (bits .and .u64 d 1 == 1) = true) : bits .xor .u64 (mixI X up c m) (X.at_ m) = mixI X up c (m + 1) := by
  rw [mixI, hd, if_pos (by simpa using h)]
theorem mixn {X : Five} {up c : Int} (m : Nat) (d : Int) (hd : up / 2 ^ m = d) (h : (bits .and .u64 d 1 == 1) = false) : mixI X up c m = mixI X up c (m + 1) := by
  rw [mixI, hd, if_neg (by simpa using h)]

def codeV (X : Five) : Value := .agg #[.int .i64 35, .int .u64 X.x0, .int .u64 X.x1, .int .u64 X.x2, .int .u64 X.x3, .int .u64 X.x4]

set_option maxRecDepth 100000 in
set_option maxHeartbeats 3200000 in
theorem step_any (B : Nat) (x : Value) (vs : List UInt8) (c : Int) (X : Five) (w : World) (hx : Byt w B x vs) (hB : B ≤ w.heap.size) (hl : vs.length ≤ 60000) (hc0 : 0 ≤ c) (hc1 : c < 18446744073709551616) :
    Calls Tryd.prog 41 #[codeV X, .int .u64 c, x] w fun e w' => e = .returned (.int .u64 (vs.foldl (stepI X) c)) ∧ Below w.heap.size w w' := by
  obtain ⟨A, cx, hxf⟩ := hx.form
  subst hxf
  have hX := Lib.hid hx
  clear hx
  unfold codeV
  obtain ⟨x0, x1, x2, x3, x4⟩ := X
  have i0 : ∀ w, (Instr.index 68 (.agg #[.int .u64 x0, .int .u64 x1, .int .u64 x2, .int .u64 x3, .int .u64 x4]) (.int .i64 0)).run Tryd.prog w = .ok (.int .u64 x0) w := fun _ => by kernel_rfl
  have i1 : ∀ w, (Instr.index 68 (.agg #[.int .u64 x0, .int .u64 x1, .int .u64 x2, .int .u64 x3, .int .u64 x4]) (.int .i64 1)).run Tryd.prog w = .ok (.int .u64 x1) w := fun _ => by kernel_rfl
  have i2 : ∀ w, (Instr.index 68 (.agg #[.int .u64 x0, .int .u64 x1, .int .u64 x2, .int .u64 x3, .int .u64 x4]) (.int .i64 2)).run Tryd.prog w = .ok (.int .u64 x2) w := fun _ => by kernel_rfl
  have i3 : ∀ w, (Instr.index 68 (.agg #[.int .u64 x0, .int .u64 x1, .int .u64 x2, .int .u64 x3, .int .u64 x4]) (.int .i64 3)).run Tryd.prog w = .ok (.int .u64 x3) w := fun _ => by kernel_rfl
  have i4 : ∀ w, (Instr.index 68 (.agg #[.int .u64 x0, .int .u64 x1, .int .u64 x2, .int .u64 x3, .int .u64 x4]) (.int .i64 4)).run Tryd.prog w = .ok (.int .u64 x4) w := fun _ => by kernel_rfl
  go_enter Tryd.func41, Tryd.ntmps41
  go_wp2_with fail
  go_loopw [14, 1] (fun j cc wr => ∃ (i : Nat) (k : Int), i ≤ vs.length ∧ j = .int .i64 i ∧ cc = .int .u64 k ∧ 0 ≤ k ∧ k < 18446744073709551616 ∧ Hid ((vs.drop i).foldl (stepI ⟨x0, x1, x2, x3, x4⟩) k = vs.foldl (stepI ⟨x0, x1, x2, x3, x4⟩) c) ∧ wr = w.alloc (.cells #[.int .i64 35, .int .u64 x0, .int .u64 x1, .int .u64 x2, .int .u64 x3, .int .u64 x4] 70)) (fun j _ _ => vs.length - (intOf j).toNat)
  case atStart => exact ⟨0, c, Nat.zero_le _, rfl, rfl, hc0, hc1, Lib.hid rfl, rfl⟩
  case round =>
    obtain ⟨i, k, hi, rfl, rfl, hk0, hk1, hfold, hw⟩ := hrel
    by_cases hlt : i < vs.length
    · obtain ⟨A', c', e0, _, _, _, h4⟩ := hX.out
      injection e0 with e1 e2 e3
      subst e1 e3
      obtain ⟨b, o, rfl, hb, hbc⟩ := h4 (by rintro rfl; simp at hlt)
      have hci := hbc i _ (List.getElem?_eq_getElem hlt)
      obtain ⟨q, hq⟩ : ∃ q, q = vs[i] := ⟨_, rfl⟩
      rw [← hq] at hci
      subst hw
      have hbi : ∀ o', (w.alloc o').cell? ⟨b, o + i, none⟩ = some (.int .u8 (q.toNat : Int)) := fun o' => (World.cell?_alloc_lt w _ _ (by show b < _; omega)).trans hci
      have hqw : IntKind.u64.wrap (q.toNat : Int) = q.toNat := by have := q.toNat_lt; rw [IntKind.wrap_u64]; omega
      have hnext : (vs.drop (i + 1)).foldl (stepI ⟨x0, x1, x2, x3, x4⟩) (stepI ⟨x0, x1, x2, x3, x4⟩ k q) = vs.foldl (stepI ⟨x0, x1, x2, x3, x4⟩) c := by
        rw [← hfold.out, List.drop_eq_getElem_cons hlt, List.foldl_cons, ← hq]
      have hbd := stepI_bd ⟨x0, x1, x2, x3, x4⟩ k q
      unfold stepI at hbd
      have HN := Lib.hid hnext
      have HQ := Lib.hid hq
      clear hci hbc h4 hq hnext hfold
      obtain ⟨up, hup⟩ : ∃ up, up = k / 34359738368 := ⟨_, rfl⟩
      obtain ⟨z, hz⟩ : ∃ z, z = bits .xor .u64 (IntKind.u64.wrap (bits .and .u64 k 34359738367 * 32)) (q.toNat : Int) := ⟨_, rfl⟩
      have hupd : 0 ≤ up ∧ up < 18446744073709551616 := by omega
      have HS : Hid (stepI ⟨x0, x1, x2, x3, x4⟩ k q = mixI ⟨x0, x1, x2, x3, x4⟩ up z 5) := Lib.hid (by rw [hup, hz]; rfl)
      rw [← hup, ← hz] at hbd
      go_wp2
      rw [← hz, ← hup]
      clear hz hup
      go_loopw [34, 1] (fun j cc wr => ∃ m : Nat, m ≤ 5 ∧ j = .int .i64 m ∧ cc = .int .u64 (mixI ⟨x0, x1, x2, x3, x4⟩ up z m) ∧ wr = w.alloc (.cells #[.int .i64 35, .int .u64 x0, .int .u64 x1, .int .u64 x2, .int .u64 x3, .int .u64 x4] 70)) (fun j _ _ => 5 - (intOf j).toNat)
      case atStart => exact ⟨0, by omega, rfl, rfl, rfl⟩
      case round =>
        obtain ⟨m, hm, rfl, rfl, rfl⟩ := hrel
        by_cases h5 : m < 5
        · obtain rfl | rfl | rfl | rfl | rfl : m = 0 ∨ m = 1 ∨ m = 2 ∨ m = 3 ∨ m = 4 := by omega
          all_goals go_wp2
          · rename_i ht
            have e := mixy (X := ⟨x0, x1, x2, x3, x4⟩) (up := up) (c := z) 0 up (by simp) ht
            exact ⟨⟨1, by omega, rfl, congrArg (Value.int .u64) e, trivial⟩, by simp [intOf]⟩
          · rename_i ht
            have e := mixn (X := ⟨x0, x1, x2, x3, x4⟩) (up := up) (c := z) 0 up (by simp) ht
            exact ⟨⟨1, by omega, rfl, congrArg (Value.int .u64) e, trivial⟩, by simp [intOf]⟩
          · rename_i ht
            have e := mixy (X := ⟨x0, x1, x2, x3, x4⟩) (up := up) (c := z) 1 (up / 2) (by simp) ht
            exact ⟨⟨2, by omega, rfl, congrArg (Value.int .u64) e, trivial⟩, by simp [intOf]⟩
          · rename_i ht
            have e := mixn (X := ⟨x0, x1, x2, x3, x4⟩) (up := up) (c := z) 1 (up / 2) (by simp) ht
            exact ⟨⟨2, by omega, rfl, congrArg (Value.int .u64) e, trivial⟩, by simp [intOf]⟩
          · rename_i ht
            have e := mixy (X := ⟨x0, x1, x2, x3, x4⟩) (up := up) (c := z) 2 (up / 4) (by simp) ht
            exact ⟨⟨3, by omega, rfl, congrArg (Value.int .u64) e, trivial⟩, by simp [intOf]⟩
          · rename_i ht
            have e := mixn (X := ⟨x0, x1, x2, x3, x4⟩) (up := up) (c := z) 2 (up / 4) (by simp) ht
            exact ⟨⟨3, by omega, rfl, congrArg (Value.int .u64) e, trivial⟩, by simp [intOf]⟩
          · rename_i ht
            have e := mixy (X := ⟨x0, x1, x2, x3, x4⟩) (up := up) (c := z) 3 (up / 8) (by simp) ht
            exact ⟨⟨4, by omega, rfl, congrArg (Value.int .u64) e, trivial⟩, by simp [intOf]⟩
          · rename_i ht
            have e := mixn (X := ⟨x0, x1, x2, x3, x4⟩) (up := up) (c := z) 3 (up / 8) (by simp) ht
            exact ⟨⟨4, by omega, rfl, congrArg (Value.int .u64) e, trivial⟩, by simp [intOf]⟩
          · rename_i ht
            have e := mixy (X := ⟨x0, x1, x2, x3, x4⟩) (up := up) (c := z) 4 (up / 16) (by simp) ht
            exact ⟨⟨5, by omega, rfl, congrArg (Value.int .u64) e, trivial⟩, by simp [intOf]⟩
          · rename_i ht
            have e := mixn (X := ⟨x0, x1, x2, x3, x4⟩) (up := up) (c := z) 4 (up / 16) (by simp) ht
            exact ⟨⟨5, by omega, rfl, congrArg (Value.int .u64) e, trivial⟩, by simp [intOf]⟩
        · have hm5 : m = 5 := by omega
          subst hm5
          go_wp2
          have hs := HS.out
          refine ⟨⟨i + 1, mixI ⟨x0, x1, x2, x3, x4⟩ up z 5, by omega, by go_num, rfl, hbd.1, hbd.2, ?_, trivial⟩, by simp [intOf]; omega⟩
          rw [← hs]
          exact HN
    · have hie : i = vs.length := by omega
      subst hw
      have HF := Lib.hid (hfold.out)
      go_wp2
      go_ret
      have hf := HF.out
      rw [List.drop_eq_nil_of_le (by omega)] at hf
      exact ⟨by rw [← hf]; rfl, (Below.refl _ _).alloc (Nat.le_refl _) _⟩

end Go.Proofs.YtgiljhdjknglpaaDoor

/-
  The checksum of a descriptor, on plain numbers: it is linear, and a byte that is another one makes another checksum. Conditions: none (plain mathematics).
-/
namespace Go.Proofs.YtgiljhdjknglpaaDoor
open Go.RowKit

/-- The m-th of the five numbers. -/
def gN : Nat → Nat
  | 0 => 1056006543753
  | 1 => 730107360018
  | 2 => 118834127661
  | 3 => 236335490938
  | _ => 430795026429
def mixN (up : Nat) (c : Nat) : Nat → Nat
  | 0 => c
  | m + 1 => if up / 2 ^ m % 2 = 1 then mixN up c m ^^^ gN m else mixN up c m
/-- A value more. -/
def turnN (c v : Nat) : Nat := mixN (c / 34359738368) ((c % 34359738368 * 32) ^^^ v) 5

theorem mixN_out (up c : Nat) : ∀ m, mixN up c m = c ^^^ mixN up 0 m
  | 0 => (Nat.xor_zero c).symm
  | m + 1 => by
    unfold mixN
    split
    · rw [mixN_out up c m, Nat.xor_assoc]
    · exact mixN_out up c m
theorem gN_lt (m : Nat) : gN m < 1099511627776 := by
  unfold gN
  split <;> omega
theorem mixN_lt (up c : Nat) (hc : c < 1099511627776) : ∀ m, mixN up c m < 1099511627776
  | 0 => hc
  | m + 1 => by
    unfold mixN
    have h := mixN_lt up c hc m
    split
    · exact Nat.xor_lt_two_pow (n := 40) h (gN_lt m)
    · exact h
theorem turnN_lt (c v : Nat) (hv : v < 1099511627776) : turnN c v < 1099511627776 :=
  mixN_lt _ _ (Nat.xor_lt_two_pow (n := 40) (by omega) hv) 5

theorem mix_xor : ∀ a : Fin 32, ∀ b : Fin 32, mixN (a.val ^^^ b.val) 0 5 = mixN a.val 0 5 ^^^ mixN b.val 0 5 := by decide +kernel
theorem mix_low : ∀ a : Fin 32, mixN a.val 0 5 % 32 = 0 → a.val = 0 := by decide +kernel

theorem turnN_out (c v : Nat) : turnN c v = turnN c 0 ^^^ v := by
  unfold turnN
  rw [mixN_out _ (_ ^^^ v), mixN_out _ (_ ^^^ 0), Nat.xor_zero, Nat.xor_assoc, Nat.xor_assoc, Nat.xor_comm v]
theorem turnN_xor (c d : Nat) (hc : c < 1099511627776) (hd : d < 1099511627776) : turnN (c ^^^ d) 0 = turnN c 0 ^^^ turnN d 0 := by
  unfold turnN
  simp only [Nat.xor_zero]
  rw [mixN_out _ (_ * 32), mixN_out (c / _) (_ * 32), mixN_out (d / _) (_ * 32)]
  have e1 : (c ^^^ d) / 34359738368 = c / 34359738368 ^^^ d / 34359738368 := by
    have := Nat.shiftRight_xor_distrib (a := c) (b := d) (i := 35)
    simpa [Nat.shiftRight_eq_div_pow] using this
  have e2 : (c ^^^ d) % 34359738368 = c % 34359738368 ^^^ d % 34359738368 := by
    have := Nat.xor_mod_two_pow (a := c) (b := d) (n := 35)
    simpa using this
  have e3 : (c % 34359738368 ^^^ d % 34359738368) * 32 = c % 34359738368 * 32 ^^^ d % 34359738368 * 32 := by
    have := Nat.shiftLeft_xor_distrib (a := c % 34359738368) (b := d % 34359738368) (i := 5)
    simpa [Nat.shiftLeft_eq] using this
  have e4 := mix_xor ⟨c / 34359738368, by omega⟩ ⟨d / 34359738368, by omega⟩
  dsimp only at e4
  rw [e1, e2, e3, e4]
  generalize c % 34359738368 * 32 = x
  generalize d % 34359738368 * 32 = y
  generalize mixN (c / 34359738368) 0 5 = p
  generalize mixN (d / 34359738368) 0 5 = q
  rw [Nat.xor_assoc, Nat.xor_assoc, ← Nat.xor_assoc y p, Nat.xor_comm y p, Nat.xor_assoc p y]
theorem xor_zero_eq {a b : Nat} (h : a ^^^ b = 0) : a = b := by
  have := congrArg (· ^^^ b) h
  simpa [Nat.xor_assoc] using this
theorem turnN_zero {d : Nat} (hd : d < 1099511627776) (h : turnN d 0 = 0) : d = 0 := by
  unfold turnN at h
  rw [Nat.xor_zero, mixN_out] at h
  have h1 := xor_zero_eq h
  have h2 := mix_low ⟨d / 34359738368, by omega⟩ (by dsimp only; rw [← h1]; omega)
  dsimp only at h2
  rw [h2] at h1
  have h3 : mixN 0 0 5 = 0 := by decide
  rw [h3] at h1
  omega
/-- The same value keeps two apart. -/
theorem turnN_apart {c d v : Nat} (hc : c < 1099511627776) (hd : d < 1099511627776) (hne : c ≠ d) : turnN c v ≠ turnN d v := by
  intro h
  rw [turnN_out c, turnN_out d] at h
  have h1 : turnN (c ^^^ d) 0 = 0 := by
    rw [turnN_xor c d hc hd]
    have := congrArg (· ^^^ v) h
    simp only [Nat.xor_assoc, Nat.xor_self, Nat.xor_zero] at this
    rw [this, Nat.xor_self]
  exact hne (xor_zero_eq (turnN_zero (Nat.xor_lt_two_pow (n := 40) hc hd) h1))
theorem turnN_small (d : Nat) (hd : d < 34359738368) : turnN d 0 = d * 32 := by
  unfold turnN
  have h3 : ∀ x, mixN 0 x 5 = x := fun x => by rw [mixN_out]; show x ^^^ 0 = x; exact Nat.xor_zero x
  rw [Nat.xor_zero, Nat.div_eq_of_lt hd, Nat.mod_eq_of_lt hd, h3]

/-- What has come: the sum, the group, and how many are in it. -/
structure ChkSt where
  c : Nat
  g : Nat
  k : Nat
def chk1 (s : ChkSt) (p : Nat) : ChkSt :=
  if s.k + 1 = 3 then ⟨turnN (turnN s.c (p % 32)) (3 * s.g + p / 32), 0, 0⟩ else ⟨turnN s.c (p % 32), 3 * s.g + p / 32, s.k + 1⟩
def chkAll (ps : List Nat) : ChkSt := ps.foldl chk1 ⟨1, 0, 0⟩
def chkEnd (s : ChkSt) : Nat := if 0 < s.k then turnN s.c s.g else s.c
def eight (c : Nat) : Nat := turnN (turnN (turnN (turnN (turnN (turnN (turnN (turnN c 0) 0) 0) 0) 0) 0) 0) 0
def chkN (ps : List Nat) : Nat := eight (chkEnd (chkAll ps)) ^^^ 1

structure ChkOk (s : ChkSt) : Prop where
  c : s.c < 1099511627776
  k : s.k < 3
  g : s.g ≤ if s.k = 0 then 0 else if s.k = 1 then 2 else 8
theorem ChkOk.g8 {s : ChkSt} (h : ChkOk s) : s.g ≤ 8 := by have := h.g; split at this <;> (try split at this) <;> omega
theorem chk1_ok {s : ChkSt} {p : Nat} (h : ChkOk s) (hp : p < 96) : ChkOk (chk1 s p) := by
  have hg := h.g
  have hk := h.k
  have h8 := h.g8
  unfold chk1
  split
  · exact ⟨turnN_lt _ _ (by omega), by show 0 < 3; omega, by simp⟩
  · next hk3 =>
    refine ⟨turnN_lt _ _ (by omega), by show s.k + 1 < 3; omega, ?_⟩
    show 3 * s.g + p / 32 ≤ if s.k + 1 = 0 then 0 else if s.k + 1 = 1 then 2 else 8
    rw [if_neg (by omega)]
    split
    · have h0 : s.k = 0 := by omega
      rw [if_pos h0] at hg
      omega
    · have h1 : ¬ s.k = 0 := by omega
      rw [if_neg h1, if_pos (by omega)] at hg
      omega
theorem chkSt0_ok : ChkOk ⟨1, 0, 0⟩ := ⟨by decide, by decide, by simp⟩
theorem chkFold_ok (ps : List Nat) (hp : ∀ p ∈ ps, p < 96) : ∀ s, ChkOk s → ChkOk (ps.foldl chk1 s) := by
  induction ps with
  | nil => exact fun s h => h
  | cons p ps ih => exact fun s h => ih (fun q hq => hp q (List.mem_cons_of_mem _ hq)) _ (chk1_ok h (hp p List.mem_cons_self))
theorem chkEnd_lt {s : ChkSt} (h : ChkOk s) : chkEnd s < 1099511627776 := by
  have := h.g8
  unfold chkEnd
  split
  · exact turnN_lt _ _ (by omega)
  · exact h.c
theorem eight_lt (c : Nat) : eight c < 1099511627776 := turnN_lt _ _ (by omega)
theorem chkN_lt (ps : List Nat) : chkN ps < 1099511627776 := Nat.xor_lt_two_pow (n := 40) (eight_lt _) (by decide)

/-- Two that part: in the sum, or within a group that isn't closed yet. -/
def Part (s t : ChkSt) : Prop := s.k = t.k ∧ (s.c ≠ t.c ∧ s.g = t.g ∨ 0 < s.k ∧ s.c ^^^ t.c < 1024 ∧ (s.k = 1 → s.c ^^^ t.c < 32) ∧ (s.c ≠ t.c ∨ s.g ≠ t.g))

theorem xor_eq_of {a b d : Nat} (h : a ^^^ b = d) : a = b ^^^ d := by
  rw [← h, Nat.xor_comm a b, ← Nat.xor_assoc, Nat.xor_self, Nat.zero_xor]
theorem diff_turn {c d a b : Nat} (hc : c < 1099511627776) (hd : d < 1099511627776) (hx : c ^^^ d < 34359738368) : turnN c a ^^^ turnN d b = (c ^^^ d) * 32 ^^^ (a ^^^ b) := by
  rw [turnN_out c, turnN_out d, ← turnN_small _ hx, turnN_xor c d hc hd]
  generalize turnN c 0 = x
  generalize turnN d 0 = y
  rw [Nat.xor_assoc, Nat.xor_assoc, ← Nat.xor_assoc a y, Nat.xor_comm a y, Nat.xor_assoc y a]
theorem ne_of_xor {a b : Nat} (h : a ^^^ b ≠ 0) : a ≠ b := by rintro rfl; exact h (Nat.xor_self a)
theorem diff_ne {c d a b : Nat} (hc : c < 1099511627776) (hd : d < 1099511627776) (hx : c ^^^ d < 34359738368) (ha : a < 32) (hb : b < 32) (hne : c ≠ d ∨ a ≠ b) : turnN c a ≠ turnN d b := by
  refine ne_of_xor ?_
  rw [diff_turn hc hd hx]
  intro h
  have h1 := xor_zero_eq h
  have h2 : a ^^^ b < 32 := Nat.xor_lt_two_pow (n := 5) ha hb
  have h3 : c ^^^ d = 0 := by omega
  have h4 : a ^^^ b = 0 := by omega
  rcases hne with h | h
  · exact h (xor_zero_eq h3)
  · exact h (xor_zero_eq h4)

theorem part_next {s t : ChkSt} {p : Nat} (hs : ChkOk s) (ht : ChkOk t) (hp : p < 96) (h : Part s t) : Part (chk1 s p) (chk1 t p) := by
  obtain ⟨hk, h⟩ := h
  have hs8 := hs.g8
  have ht8 := ht.g8
  have hk3 := hs.k
  unfold chk1
  rw [← hk]
  rcases h with ⟨hne, hg⟩ | ⟨hk0, hx, hx1, hne⟩
  · split
    · refine ⟨rfl, .inl ⟨?_, rfl⟩⟩
      show turnN (turnN s.c (p % 32)) (3 * s.g + p / 32) ≠ turnN (turnN t.c (p % 32)) (3 * t.g + p / 32)
      rw [hg]
      exact turnN_apart (turnN_lt _ _ (by omega)) (turnN_lt _ _ (by omega)) (turnN_apart hs.c ht.c hne)
    · refine ⟨rfl, .inl ⟨turnN_apart hs.c ht.c hne, ?_⟩⟩
      show 3 * s.g + p / 32 = 3 * t.g + p / 32
      rw [hg]
  · have hd := diff_turn (a := p % 32) (b := p % 32) hs.c ht.c (by omega)
    rw [Nat.xor_self, Nat.xor_zero] at hd
    have hnc : s.c ≠ t.c → turnN s.c (p % 32) ≠ turnN t.c (p % 32) := turnN_apart hs.c ht.c
    split
    · refine ⟨rfl, .inl ⟨?_, rfl⟩⟩
      show turnN (turnN s.c (p % 32)) (3 * s.g + p / 32) ≠ turnN (turnN t.c (p % 32)) (3 * t.g + p / 32)
      refine diff_ne (turnN_lt _ _ (by omega)) (turnN_lt _ _ (by omega)) (by rw [hd]; omega) (by omega) (by omega) ?_
      rcases hne with h | h
      · exact .inl (hnc h)
      · exact .inr (by omega)
    · refine ⟨rfl, .inr ⟨?_, ?_, ?_, ?_⟩⟩
      · show 0 < s.k + 1
        omega
      · show turnN s.c (p % 32) ^^^ turnN t.c (p % 32) < 1024
        rw [hd]
        have := hx1 (by omega)
        omega
      · intro h
        have h2 : s.k + 1 = 1 := h
        omega
      · rcases hne with h | h
        · exact .inl (hnc h)
        · refine .inr ?_
          show 3 * s.g + p / 32 ≠ 3 * t.g + p / 32
          omega
theorem part_first {s : ChkSt} {p q : Nat} (hs : ChkOk s) (hp : p < 96) (hq : q < 96) (hne : p ≠ q) : Part (chk1 s p) (chk1 s q) := by
  have hs8 := hs.g8
  have hx : (s.c ^^^ s.c) < 34359738368 := by rw [Nat.xor_self]; omega
  have hd := diff_turn (a := p % 32) (b := q % 32) hs.c hs.c hx
  rw [Nat.xor_self, Nat.zero_mul, Nat.zero_xor] at hd
  have hlt : (p % 32) ^^^ (q % 32) < 32 := Nat.xor_lt_two_pow (n := 5) (by omega) (by omega)
  have hor : turnN s.c (p % 32) ≠ turnN s.c (q % 32) ∨ 3 * s.g + p / 32 ≠ 3 * s.g + q / 32 := by
    by_cases h : p % 32 = q % 32
    · exact .inr (by omega)
    · exact .inl (diff_ne hs.c hs.c hx (by omega) (by omega) (.inr h))
  unfold chk1
  split
  · exact ⟨rfl, .inl ⟨diff_ne (turnN_lt _ _ (by omega)) (turnN_lt _ _ (by omega)) (by rw [hd]; omega) (by omega) (by omega) hor, rfl⟩⟩
  · refine ⟨rfl, .inr ⟨?_, ?_, fun _ => ?_, hor⟩⟩
    · show 0 < s.k + 1
      omega
    · show turnN s.c (p % 32) ^^^ turnN s.c (q % 32) < 1024
      rw [hd]
      omega
    · show turnN s.c (p % 32) ^^^ turnN s.c (q % 32) < 32
      rw [hd]
      exact hlt
theorem part_fold (ps : List Nat) (hp : ∀ p ∈ ps, p < 96) : ∀ s t, ChkOk s → ChkOk t → Part s t → Part (ps.foldl chk1 s) (ps.foldl chk1 t) := by
  induction ps with
  | nil => exact fun s t _ _ h => h
  | cons p ps ih =>
    intro s t hs ht h
    have hp0 := hp p List.mem_cons_self
    exact ih (fun q hq => hp q (List.mem_cons_of_mem _ hq)) _ _ (chk1_ok hs hp0) (chk1_ok ht hp0) (part_next hs ht hp0 h)
theorem part_end {s t : ChkSt} (hs : ChkOk s) (ht : ChkOk t) (h : Part s t) : chkEnd s ≠ chkEnd t := by
  have hs8 := hs.g8
  have ht8 := ht.g8
  obtain ⟨hk, h⟩ := h
  unfold chkEnd
  rw [← hk]
  rcases h with ⟨hne, hg⟩ | ⟨hk0, hx, hx1, hne⟩
  · rw [← hg]
    split
    · exact turnN_apart hs.c ht.c hne
    · exact hne
  · rw [if_pos hk0, if_pos hk0]
    exact diff_ne hs.c ht.c (by omega) (by omega) (by omega) hne
theorem eight_apart {c d : Nat} (hc : c < 1099511627776) (hd : d < 1099511627776) (h : c ≠ d) : eight c ≠ eight d := by
  have l : ∀ c, turnN c 0 < 1099511627776 := fun c => turnN_lt _ _ (by omega)
  unfold eight
  exact turnN_apart (l _) (l _) (turnN_apart (l _) (l _) (turnN_apart (l _) (l _) (turnN_apart (l _) (l _) (turnN_apart (l _) (l _) (turnN_apart (l _) (l _) (turnN_apart (l _) (l _) (turnN_apart hc hd h)))))))
/-- One position that is another one makes another sum. -/
theorem chkN_apart (xs ys : List Nat) (p q : Nat) (hx : ∀ a ∈ xs, a < 96) (hy : ∀ a ∈ ys, a < 96) (hp : p < 96) (hq : q < 96) (hne : p ≠ q) : chkN (xs ++ p :: ys) ≠ chkN (xs ++ q :: ys) := by
  have h0 := chkFold_ok xs hx _ chkSt0_ok
  have h1 := chk1_ok h0 hp
  have h2 := chk1_ok h0 hq
  unfold chkN chkAll
  rw [List.foldl_append, List.foldl_append, List.foldl_cons, List.foldl_cons]
  have hP := part_fold ys hy _ _ h1 h2 (part_first h0 hp hq hne)
  have ha := chkFold_ok ys hy _ h1
  have hb := chkFold_ok ys hy _ h2
  have he := eight_apart (chkEnd_lt ha) (chkEnd_lt hb) (part_end ha hb hP)
  intro h
  refine he ?_
  have := congrArg (· ^^^ 1) h
  simpa [Nat.xor_assoc] using this

/-- The last eight values. -/
def eightOf (c : Nat) : List Nat := (List.range 8).map fun i => c / 2 ^ (5 * (7 - i)) % 32
theorem eightOf_inj {c d : Nat} (hc : c < 1099511627776) (hd : d < 1099511627776) (h : eightOf c = eightOf d) : c = d := by
  simp only [eightOf, List.range, List.range.loop, List.map_cons, List.map_nil, List.cons.injEq, and_true, Nat.reduceSub, Nat.reduceMul, Nat.reducePow] at h
  omega

def X0 : Five := ⟨1056006543753, 730107360018, 118834127661, 236335490938, 430795026429⟩
theorem X0_at (m : Nat) : X0.at_ m = ((gN m : Nat) : Int) := by
  match m with
  | 0 => rfl
  | 1 => rfl
  | 2 => rfl
  | 3 => rfl
  | n + 4 => rfl
theorem mixI_nat (up c : Nat) (hu : up < 1099511627776) (hc : c < 1099511627776) : ∀ m, mixI X0 up c m = ((mixN up c m : Nat) : Int)
  | 0 => rfl
  | m + 1 => by
    have h2 : ((up : Int) / 2 ^ m) = ((up / 2 ^ m : Nat) : Int) := by simp
    have hle : up / 2 ^ m ≤ up := Nat.div_le_self _ _
    unfold mixI mixN
    rw [h2]
    generalize up / 2 ^ m = d at hle
    rw [Lib.u64_and1 _ (by omega) (by omega), mixI_nat up c hu hc m, X0_at, bits_xor_u64_nat _ _ (by have := mixN_lt up c hc m; omega) (by have := gN_lt m; omega)]
    by_cases h : d % 2 = 1
    · rw [if_pos h, if_pos (by omega)]
    · rw [if_neg h, if_neg (by omega)]
theorem stepI_nat (c : Nat) (v : UInt8) (hc : c < 1099511627776) : stepI X0 c v = ((turnN c v.toNat : Nat) : Int) := by
  have hv := v.toNat_lt
  have h1 : bits .and .u64 (c : Int) 34359738367 = ((c % 34359738368 : Nat) : Int) := by
    have h := bits_mask .u64 64 (by decide) wraps_u64 35 (by decide) (c : Int) (by omega) (by omega)
    have e : ((2 : Int) ^ 35 - 1) = 34359738367 := by decide
    rw [e] at h
    rw [h]
    omega
  have h2 : IntKind.u64.wrap (((c % 34359738368 : Nat) : Int) * 32) = ((c % 34359738368 * 32 : Nat) : Int) := by rw [IntKind.wrap_u64]; omega
  unfold stepI turnN
  rw [h1, h2, bits_xor_u64_nat _ _ (by omega) (by omega)]
  have h3 : ((c : Int) / 34359738368) = ((c / 34359738368 : Nat) : Int) := by omega
  rw [h3, mixI_nat _ _ (by omega) (Nat.xor_lt_two_pow (n := 40) (by omega) (by omega))]
end Go.Proofs.YtgiljhdjknglpaaDoor
