/-
  Texts joined: HkParse, Shelf2, HkStep. Conditions: those of each.
-/
import Derived.Test.YtfkpdbmgiefnfaaDoorP28
import Derived.Lib.ConvBytes
import Derived.Lib.AtoiErrMem
import Derived.Shelf.Small.Strs
import Derived.Shelf.LaysM
import Derived.Shelf.Strconv.ToErrorRange
import Derived.Shelf.Strings.Search3
import Derived.Shelf.Strings.Prefix
import Derived.Test.YtfkpdbmgiefnfaaDoorProg
/-
  The library's ParseUint at base 10 and 31 bits, walked, at digits. Conditions: the text is a number's, within the reach.
-/
namespace Go.Proofs.YtfkpdbmgiefnfaaDoor.Hk
open Go.RowKit

/-- The value of digits. -/
def valB (l : List UInt8) : Nat := l.foldl (fun n c => n * 10 + (c.toNat - 48)) 0
theorem valB_snoc (l : List UInt8) (c : UInt8) : valB (l ++ [c]) = valB l * 10 + (c.toNat - 48) := by simp [valB]
theorem valB_grows (l m : List UInt8) : valB l ≤ valB (l ++ m) := by
  induction m generalizing l with
  | nil => simp
  | cons c m ih =>
    have h := ih (l ++ [c])
    rw [valB_snoc, List.append_assoc, List.singleton_append] at h
    omega
def parseN (l : List UInt8) : Nat := if valB l < 2147483648 then valB l else 2147483647
def parseV (l : List UInt8) : Value := if valB l < 2147483648 then .nilIface else .iface 131 (.int .i64 1)

set_option maxRecDepth 100000 in
set_option maxHeartbeats 12800000 in
theorem iparse_any (s : ByteArray) (w : World) (hs : s.size ≤ 100000) (h0 : 0 < s.size) (hd : s.data.toList.all dB = true) :
    Calls Tryd.prog 63 #[.string s, .int .i64 10, .int .i64 31] w fun e w' => e = .returned (.tuple #[.int .u64 (parseN s.data.toList : Nat), parseV s.data.toList]) ∧ Below w.heap.size w w' := by
  have e2 : s.toList.isEmpty = false := by
    rw [ByteArray.toList_eq]
    cases hl : s.data.toList with
    | nil => have := blen s; rw [hl] at this; simp at this; omega
    | cons a l => rfl
  have HD := Lib.hid hd
  clear hd
  have kc := Lib.run_convert_string_bytes (P := Tryd.prog) w 9 22 5 s Tryd.underlying9 Tryd.underlying22 Tryd.underlying5
  obtain ⟨c0, hc0⟩ : ∃ c0, c0 = grownCap w s.size 0 5 := ⟨_, rfl⟩
  rw [← hc0] at kc
  have HS := Lib.hid (show Below w.heap.size w (Lib.bytesWorld w 5 s) from Lib.bytesWorld_below w 5 s)
  have HC := Lib.hid (fun j (hj : j < s.size) => Lib.bytesWorld_cell w 5 s j hj)
  obtain ⟨W1, hW1⟩ : ∃ W1, W1 = Lib.bytesWorld w 5 s := ⟨_, rfl⟩
  rw [← hW1] at kc HS HC
  clear hc0 hW1
  go_enter Tryd.func63, Tryd.ntmps63
  go_wp2_with fail
  clear kc
  go_loopw [12, 13, 101] (fun v12 v13 v101 wr => ∃ k : Nat, k ≤ s.size ∧ v12 = .bool false ∧ v101 = .int .i64 (k : Int) ∧ v13 = .int .u64 (valB (s.data.toList.take k) : Nat) ∧ valB (s.data.toList.take k) < 2147483648 ∧ wr = W1) (fun _ _ v101 _ => s.size - (intOf v101).toNat)
  case atStart => exact ⟨0, by omega, rfl, rfl, rfl, by rw [List.take_zero]; decide, rfl⟩
  case round =>
    obtain ⟨k, hk, rfl, rfl, rfl, hv, rfl⟩ := hrel
    by_cases hlt : k < s.size
    · obtain ⟨c, hc⟩ : ∃ c, c = s.data.toList.getD k 0 := ⟨_, rfl⟩
      have hcell := HC.out k hlt
      rw [← hc] at hcell
      have hat : s.data.toList[k]? = some c := by
        rw [hc, List.getD, List.getElem?_eq_getElem (by rw [blen]; exact hlt)]
        rfl
      have hdc : dB c = true := List.all_eq_true.1 HD.out c (List.mem_of_getElem? hat)
      unfold dB at hdc
      simp only [Bool.and_eq_true, decide_eq_true_eq] at hdc
      have hsn : valB (s.data.toList.take (k + 1)) = valB (s.data.toList.take k) * 10 + (c.toNat - 48) := by rw [List.take_add_one, hat]; exact valB_snoc _ _
      have hgr : valB (s.data.toList.take (k + 1)) ≤ valB s.data.toList := by
        have h := valB_grows (s.data.toList.take (k + 1)) (s.data.toList.drop (k + 1))
        rw [List.take_append_drop] at h
        exact h
      obtain ⟨n, hn⟩ : ∃ n, n = valB (s.data.toList.take k) := ⟨_, rfl⟩
      rw [← hn] at hsn hv ⊢
      obtain ⟨m, hm⟩ : ∃ m, m = valB (s.data.toList.take (k + 1)) := ⟨_, rfl⟩
      rw [← hm] at hsn hgr
      have h1 := hdc.1
      have h2 := hdc.2
      have i1 : (48 : Int) ≤ (c.toNat : Int) := by omega
      have i2 : (c.toNat : Int) ≤ 57 := by omega
      obtain ⟨d, hd⟩ : ∃ d : Nat, d = c.toNat - 48 := ⟨_, rfl⟩
      have e1 : (c.toNat : Int) - 48 = (d : Int) := by omega
      have e3 : ((c.toNat : Int) == 95) = false := by simp; omega
      have e4 : IntKind.u8.wrap (d : Int) = (d : Int) := by rw [IntKind.wrap_u8]; omega
      have e5 : IntKind.u64.wrap (d : Int) = (d : Int) := by rw [IntKind.wrap_u64]; omega
      have e6 : decide (10 ≤ (d : Int)) = false := decide_eq_false (by omega)
      have e7 : decide ((1844674407370955162 : Int) ≤ (n : Int)) = false := decide_eq_false (by omega)
      have e8 : IntKind.u64.wrap ((n : Int) * 10) = (n : Int) * 10 := by rw [IntKind.wrap_u64]; omega
      have e9 : IntKind.u64.wrap ((n : Int) * 10 + (d : Int)) = (m : Int) := by rw [IntKind.wrap_u64]; omega
      have e10 : (n : Int) * 10 + (d : Int) = (m : Int) := by omega
      have e11 : decide ((m : Int) < (n : Int) * 10) = false := decide_eq_false (by omega)
      by_cases hbig : m < 2147483648
      · have e12 : decide ((2147483647 : Int) < (m : Int)) = false := decide_eq_false (by omega)
        have HM := Lib.hid hm
        clear hat hdc hsn hgr hn hm hd hc h1 h2
        go_wp2_with fail
        exact ⟨⟨k + 1, by omega, rfl, by go_num, by rw [HM.out], by rw [← HM.out]; exact hbig, trivial⟩, by simp [intOf]; omega⟩
      · have e12 : decide ((2147483647 : Int) < (m : Int)) = true := decide_eq_true (by omega)
        have hge : ¬ valB s.data.toList < 2147483648 := by omega
        have hp1 : parseN s.data.toList = 2147483647 := by unfold parseN; rw [if_neg hge]
        have hp2 : parseV s.data.toList = .iface 131 (.int .i64 1) := by unfold parseV; rw [if_neg hge]
        have HP1 := Lib.hid hp1
        have HP2 := Lib.hid hp2
        clear hat hdc hsn hgr hn hm hd hc h1 h2 hge hp1 hp2
        go_wp2_with fail
        go_ret2
        exact ⟨by rw [HP1.out, HP2.out]; rfl, HS.out⟩
    · obtain rfl : k = s.size := by omega
      have hk2 : s.data.toList.take s.size = s.data.toList := List.take_of_length_le (by rw [blen]; omega)
      rw [hk2] at hv ⊢
      have hp1 : parseN s.data.toList = valB s.data.toList := by unfold parseN; rw [if_pos hv]
      have hp2 : parseV s.data.toList = .nilIface := by unfold parseV; rw [if_pos hv]
      have HP1 := Lib.hid hp1
      have HP2 := Lib.hid hp2
      obtain ⟨n, hn⟩ : ∃ n, n = valB s.data.toList := ⟨_, rfl⟩
      rw [← hn]
      have HN := Lib.hid hn
      clear hk2 hp1 hp2 hv hn
      go_wp2_with fail
      go_ret2
      exact ⟨by rw [HP1.out, HP2.out, ← HN.out]; rfl, HS.out⟩
end Go.Proofs.YtfkpdbmgiefnfaaDoor.Hk

/-
  DERIVED: THE SHELF's CONTRACTS AT THIS DUMP, IN PLAIN WORDS (tools/lay-plain.mjs out of 'TrydShelf.lean', which tools/lay-shelf.mjs wrote): THE SAME DECLARATIONS UNDER THE SAME NAMES: 'import', 'namespace', 'open', 'def', 'theorem' AND NOTHING ELSE: no command of the shelf's: FOR A HAND-IN. Each laying: the table of numbers ('.._ren') and one theorem, a field a fact of the dump's own or the kernel's comparison; each contract: ONE APPLICATION.
-/
namespace Go.Proofs
open Go.Shelf
def Tryd.lays137_ren : Go.Shelf.Ren := ⟨fun | 137 => 39 | 217 => 62 | 266 => 79 | n => n, fun | 9 => 9 | 5 => 5 | 3 => 3 | n => n, fun | n => n⟩
theorem Tryd.lays137 : Go.Proofs.Lays.n137 Tryd.prog Tryd.lays137_ren := {
  mixed := by kernel_rfl
  f137 := Tryd.func39.trans (congrArg some (by kernel_rfl))
  f217 := Tryd.func62.trans (congrArg some (by kernel_rfl))
  f266 := Tryd.func79.trans (congrArg some (by kernel_rfl))
  t3 := Tryd.underlying3
  a3 := Tryd.isAgg3
  z3 := Tryd.sizeOf3
  v3 := Tryd.zeroValue3
  t5 := Tryd.underlying5
  a5 := Tryd.isAgg5
  z5 := Tryd.sizeOf5
  v5 := Tryd.zeroValue5
  t9 := Tryd.underlying9
  a9 := Tryd.isAgg9
  z9 := Tryd.sizeOf9
  v9 := Tryd.zeroValue9 }
open Go.RowKit in
/-- strings.IndexByte: "IndexByte returns the index of the first instance of c in s, or -1 if c is not present in s.": IT RETURNS 'Lib.indexByte s c'; the world is as it was. (LAID: no walk: one application.) -/
theorem Tryd.strings_IndexByte (s : ByteArray) (c : Int) (w : World) :
    Calls Tryd.prog 39 #[.string s, .int .u8 c] w fun e w' => e = .returned (.int .i64 (Lib.indexByte s.data.toList c.toNat.toUInt8)) ∧ w' = w := Any.strings_IndexByte Tryd.lays137 s c w
def Tryd.laysC245_ren : Go.Shelf.Ren := ⟨fun | 245 => 64 | 279 => 82 | 280 => 83 | 281 => 84 | 282 => 85 | 316 => 96 | 171 => 98 | 205 => 97 | 243 => 100 | 246 => 101 | 283 => 54 | 284 => 55 | 285 => 56 | 286 => 57 | 129 => 73 | 317 => 72 | 318 => 74 | 319 => 75 | 320 => 76 | 337 => 91 | 338 => 92 | n => n, fun | 9 => 9 | 3 => 3 | 75 => 86 | 167 => 131 | 4 => 4 | 168 => 133 | 210 => 151 | 37 => 22 | 0 => 0 | 127 => 155 | 145 => 158 | 143 => 156 | 2 => 2 | 171 => 110 | 53 => 57 | 5 => 5 | 173 => 113 | 212 => 127 | 51 => 27 | 20 => 20 | 213 => 128 | 46 => 99 | 232 => 28 | 233 => 51 | 80 => 160 | n => n, fun | 15 => 7 | 16 => 8 | 17 => 3 | 18 => 9 | 19 => 10 | n => n⟩
theorem Tryd.laysC245 : Go.Proofs.LaysC.n245 Tryd.prog Tryd.laysC245_ren := {
  mixed := by kernel_rfl
  f129 := Tryd.func73.trans (congrArg some (by kernel_rfl))
  f171 := Tryd.func98.trans (congrArg some (by kernel_rfl))
  f205 := Tryd.func97.trans (congrArg some (by kernel_rfl))
  f243 := Tryd.func100.trans (congrArg some (by kernel_rfl))
  f245 := Tryd.func64.trans (congrArg some (by kernel_rfl))
  f246 := Tryd.func101.trans (congrArg some (by kernel_rfl))
  f279 := Tryd.func82.trans (congrArg some (by kernel_rfl))
  f280 := Tryd.func83.trans (congrArg some (by kernel_rfl))
  f281 := Tryd.func84.trans (congrArg some (by kernel_rfl))
  f282 := Tryd.func85.trans (congrArg some (by kernel_rfl))
  f283 := Tryd.func54.trans (congrArg some (by kernel_rfl))
  f284 := Tryd.func55.trans (congrArg some (by kernel_rfl))
  f285 := Tryd.func56.trans (congrArg some (by kernel_rfl))
  f286 := Tryd.func57.trans (congrArg some (by kernel_rfl))
  f316 := Tryd.func96.trans (congrArg some (by kernel_rfl))
  f317 := Tryd.func72.trans (congrArg some (by kernel_rfl))
  f318 := Tryd.func74.trans (congrArg some (by kernel_rfl))
  f319 := Tryd.func75.trans (congrArg some (by kernel_rfl))
  f320 := Tryd.func76.trans (congrArg some (by kernel_rfl))
  f337 := Tryd.func91.trans (congrArg some (by kernel_rfl))
  f338 := Tryd.func92.trans (congrArg some (by kernel_rfl))
  t0 := Tryd.underlying0
  a0 := Tryd.isAgg0
  z0 := Tryd.sizeOf0
  v0 := Tryd.zeroValue0
  t2 := Tryd.underlying2
  a2 := Tryd.isAgg2
  z2 := Tryd.sizeOf2
  v2 := Tryd.zeroValue2
  t3 := Tryd.underlying3
  a3 := Tryd.isAgg3
  z3 := Tryd.sizeOf3
  v3 := Tryd.zeroValue3
  t4 := Tryd.underlying4
  a4 := Tryd.isAgg4
  z4 := Tryd.sizeOf4
  v4 := Tryd.zeroValue4
  t5 := Tryd.underlying5
  a5 := Tryd.isAgg5
  z5 := Tryd.sizeOf5
  v5 := Tryd.zeroValue5
  t9 := Tryd.underlying9
  a9 := Tryd.isAgg9
  z9 := Tryd.sizeOf9
  v9 := Tryd.zeroValue9
  t20 := Tryd.underlying20
  a20 := Tryd.isAgg20
  z20 := Tryd.sizeOf20
  v20 := Tryd.zeroValue20
  t37 := Tryd.underlying22
  a37 := Tryd.isAgg22
  z37 := Tryd.sizeOf22
  v37 := Tryd.zeroValue22
  t46 := Tryd.underlying99
  a46 := Tryd.isAgg99
  z46 := Tryd.sizeOf99
  v46 := Tryd.zeroValue99
  t51 := Tryd.underlying27
  a51 := Tryd.isAgg27
  z51 := Tryd.sizeOf27
  v51 := Tryd.zeroValue27
  t53 := Tryd.underlying57
  a53 := Tryd.isAgg57
  z53 := Tryd.sizeOf57
  v53 := Tryd.zeroValue57
  t75 := Tryd.underlying86
  a75 := Tryd.isAgg86
  z75 := Tryd.sizeOf86
  v75 := Tryd.zeroValue86
  t127 := Tryd.underlying155
  a127 := Tryd.isAgg155
  z127 := Tryd.sizeOf155
  v127 := Tryd.zeroValue155
  t143 := Tryd.underlying156
  a143 := Tryd.isAgg156
  z143 := Tryd.sizeOf156
  v143 := Tryd.zeroValue156
  t145 := Tryd.underlying158
  a145 := Tryd.isAgg158
  z145 := Tryd.sizeOf158
  v145 := Tryd.zeroValue158
  t167 := Tryd.underlying131
  a167 := Tryd.isAgg131
  z167 := Tryd.sizeOf131
  v167 := Tryd.zeroValue131
  t168 := Tryd.underlying133
  a168 := Tryd.isAgg133
  z168 := Tryd.sizeOf133
  v168 := Tryd.zeroValue133
  t171 := Tryd.underlying110
  a171 := Tryd.isAgg110
  z171 := Tryd.sizeOf110
  v171 := Tryd.zeroValue110
  t173 := Tryd.underlying113
  a173 := Tryd.isAgg113
  z173 := Tryd.sizeOf113
  v173 := Tryd.zeroValue113
  t210 := Tryd.underlying151
  a210 := Tryd.isAgg151
  z210 := Tryd.sizeOf151
  v210 := Tryd.zeroValue151
  t212 := Tryd.underlying127
  a212 := Tryd.isAgg127
  z212 := Tryd.sizeOf127
  v212 := Tryd.zeroValue127
  t213 := Tryd.underlying128
  a213 := Tryd.isAgg128
  z213 := Tryd.sizeOf128
  t232 := Tryd.underlying28
  a232 := Tryd.isAgg28
  z232 := Tryd.sizeOf28
  v232 := Tryd.zeroValue28
  t233 := Tryd.underlying51
  a233 := Tryd.isAgg51
  z233 := Tryd.sizeOf51
  v233 := Tryd.zeroValue51
  g15 := by kernel_rfl
  g16 := by kernel_rfl
  g17 := by kernel_rfl
  g18 := by kernel_rfl
  g19 := by kernel_rfl
  t80 := Tryd.underlying160
  a80 := Tryd.isAgg160
  z80 := Tryd.sizeOf160
  v80 := Tryd.zeroValue160
  i0 := by kernel_rfl
  i2 := by kernel_rfl
  i3 := by kernel_rfl
  i4 := by kernel_rfl
  i5 := by kernel_rfl
  i9 := by kernel_rfl
  i20 := by kernel_rfl
  i37 := by kernel_rfl
  i46 := by kernel_rfl
  i51 := by kernel_rfl
  i53 := by kernel_rfl
  i75 := by kernel_rfl
  i80 := by kernel_rfl
  i127 := by kernel_rfl
  i143 := by kernel_rfl
  i145 := by kernel_rfl
  i167 := by kernel_rfl
  i168 := by kernel_rfl
  i171 := by kernel_rfl
  i173 := by kernel_rfl
  i210 := by kernel_rfl
  i212 := by kernel_rfl
  i232 := by kernel_rfl
  i233 := by kernel_rfl
  m15 := by kernel_rfl
  m16 := by kernel_rfl
  m17 := by kernel_rfl
  m18 := by kernel_rfl
  m19 := by kernel_rfl
  c0 := by kernel_rfl
  c2 := by kernel_rfl
  c3 := by kernel_rfl
  c4 := by kernel_rfl
  c5 := by kernel_rfl
  c9 := by kernel_rfl
  c20 := by kernel_rfl
  c37 := by kernel_rfl
  c46 := by kernel_rfl
  c51 := by kernel_rfl
  c53 := by kernel_rfl
  c75 := by kernel_rfl
  c80 := by kernel_rfl
  c127 := by kernel_rfl
  c143 := by kernel_rfl
  c145 := by kernel_rfl
  c167 := by kernel_rfl
  c168 := by kernel_rfl
  c171 := by kernel_rfl
  c173 := by kernel_rfl
  c210 := by kernel_rfl
  c212 := by kernel_rfl
  c213 := by kernel_rfl
  c232 := by kernel_rfl
  c233 := by kernel_rfl }
open Go.RowKit in
/-- strconv.toError, at the inner package's ErrRange: 'rangeError(fn, s)' as an error: A *NumError IN A NEW BLOCK. (LAID: no walk: one application.) -/
theorem Tryd.strconv_toError_range (fn s : ByteArray) (base bits : Int) (ev : Value) (w : World) (hlim : s.size ≤ 281474976710656) (hv : w.cell? ⟨8, 0, none⟩ = some ev) (hev : ev = .nilIface ∨ ∃ te pe, ev = .iface te pe) :
    Calls Tryd.prog 64 #[.string fn, .string s, .int .i64 base, .int .i64 bits, .iface 131 (.int .i64 1)] w fun e w' => ∃ N, e = .returned (.iface 133 (.pointer (some ⟨N, 0, none⟩))) ∧ w.heap.size ≤ N ∧ w'.heap[N]? = some (.cells #[.string fn, .string s, ev] 151 (0, 0)) ∧ Below w.heap.size w w' := Any.strconv_toError_range Tryd.laysC245 fn s base bits ev w hlim hv hev
def Tryd.lays143_ren : Go.Shelf.Ren := ⟨fun | 143 => 60 | 219 => 78 | 217 => 62 | 225 => 93 | 224 => 94 | 267 => 95 | 266 => 79 | 314 => 99 | n => n, fun | 9 => 9 | 3 => 3 | 4 => 4 | 5 => 5 | 46 => 99 | 146 => 153 | 51 => 27 | n => n, fun | 1 => 6 | n => n⟩
theorem Tryd.lays143 : Go.Proofs.Lays.n143 Tryd.prog Tryd.lays143_ren := {
  mixed := by kernel_rfl
  f143 := Tryd.func60.trans (congrArg some (by kernel_rfl))
  f217 := Tryd.func62.trans (congrArg some (by kernel_rfl))
  f219 := Tryd.func78.trans (congrArg some (by kernel_rfl))
  f224 := Tryd.func94.trans (congrArg some (by kernel_rfl))
  f225 := Tryd.func93.trans (congrArg some (by kernel_rfl))
  f266 := Tryd.func79.trans (congrArg some (by kernel_rfl))
  f267 := Tryd.func95.trans (congrArg some (by kernel_rfl))
  f314 := Tryd.func99.trans (congrArg some (by kernel_rfl))
  t3 := Tryd.underlying3
  a3 := Tryd.isAgg3
  z3 := Tryd.sizeOf3
  v3 := Tryd.zeroValue3
  t4 := Tryd.underlying4
  a4 := Tryd.isAgg4
  z4 := Tryd.sizeOf4
  v4 := Tryd.zeroValue4
  t5 := Tryd.underlying5
  a5 := Tryd.isAgg5
  z5 := Tryd.sizeOf5
  v5 := Tryd.zeroValue5
  t9 := Tryd.underlying9
  a9 := Tryd.isAgg9
  z9 := Tryd.sizeOf9
  v9 := Tryd.zeroValue9
  t46 := Tryd.underlying99
  a46 := Tryd.isAgg99
  z46 := Tryd.sizeOf99
  v46 := Tryd.zeroValue99
  t51 := Tryd.underlying27
  a51 := Tryd.isAgg27
  z51 := Tryd.sizeOf27
  v51 := Tryd.zeroValue27
  t146 := Tryd.underlying153
  a146 := Tryd.isAgg153
  z146 := Tryd.sizeOf153
  v146 := Tryd.zeroValue153
  g1 := by kernel_rfl }
open Go.RowKit Go.Lib in
/-- strings.Index: "Index returns the index of the first instance of substr in s, or -1 if substr is not present in s.": AT A substr OF ONE BYTE c: IT RETURNS 'Lib.indexByte s c'; the world is as it was. (LAID: no walk: one application.) -/
theorem Tryd.strings_Index_one (s : ByteArray) (c : UInt8) (w : World) :
    Calls Tryd.prog 60 #[.string s, .string ⟨#[c]⟩] w fun e w' => e = .returned (.int .i64 (Lib.indexByte s.data.toList c)) ∧ w' = w := Any.strings_Index_one Tryd.lays143 s c w
def Tryd.lays101_ren : Go.Shelf.Ren := ⟨fun | 101 => 24 | 208 => 38 | 206 => 61 | n => n, fun | 9 => 9 | 4 => 4 | 3 => 3 | n => n, fun | n => n⟩
theorem Tryd.lays101 : Go.Proofs.Lays.n101 Tryd.prog Tryd.lays101_ren := {
  mixed := by kernel_rfl
  f101 := Tryd.func24.trans (congrArg some (by kernel_rfl))
  f206 := Tryd.func61.trans (congrArg some (by kernel_rfl))
  f208 := Tryd.func38.trans (congrArg some (by kernel_rfl))
  t3 := Tryd.underlying3
  a3 := Tryd.isAgg3
  z3 := Tryd.sizeOf3
  v3 := Tryd.zeroValue3
  t4 := Tryd.underlying4
  a4 := Tryd.isAgg4
  z4 := Tryd.sizeOf4
  v4 := Tryd.zeroValue4
  t9 := Tryd.underlying9
  a9 := Tryd.isAgg9
  z9 := Tryd.sizeOf9
  v9 := Tryd.zeroValue9 }
open Go.RowKit Go.Lib in
/-- strings.TrimPrefix: "TrimPrefix returns s without the provided leading prefix string. If s doesn't start with prefix, s is returned unchanged.": IT RETURNS 'Lib.trimPrefix s prefix'; the world is as it was. (LAID: no walk: one application.) -/
theorem Tryd.strings_TrimPrefix (s p : ByteArray) (w : World) :
    Calls Tryd.prog 24 #[.string s, .string p] w fun e w' => e = .returned (.string ⟨(Lib.trimPrefix s.data.toList p.data.toList).toArray⟩) ∧ w' = w := Any.strings_TrimPrefix Tryd.lays101 s p w
end Go.Proofs

/-
  strconv.ParseUint at digits and hdkey.parseStep, walked. Conditions: a text within the reach; strconv.ErrRange holds an error or none.
-/
namespace Go.Proofs.YtfkpdbmgiefnfaaDoor.Hk
open Go.RowKit

/-- What strconv.ErrRange holds. -/
def ErrOk (w : World) : Prop := ∃ ev, w.cell? ⟨8, 0, none⟩ = some ev ∧ (ev = .nilIface ∨ ∃ te pe, ev = .iface te pe)
theorem ErrOk.below {w w' : World} {B : Nat} (h : ErrOk w) (hb : Below B w w') (hB : 8 < B) : ErrOk w' := by
  obtain ⟨ev, h1, h2⟩ := h
  exact ⟨ev, (hb.cell (p := ⟨8, 0, none⟩) hB).trans h1, h2⟩
theorem ErrOk.lt {w : World} (h : ErrOk w) : 8 < w.heap.size := by
  obtain ⟨ev, h1, _⟩ := h
  exact World.block_lt_of_cell? _ _ h1

set_option maxRecDepth 100000 in
set_option maxHeartbeats 3200000 in
theorem uparse_any (s : ByteArray) (w : World) (hs : s.size ≤ 100000) (h0 : 0 < s.size) (hd : s.data.toList.all dB = true) (he : ErrOk w) :
    Calls Tryd.prog 41 #[.string s, .int .i64 10, .int .i64 31] w fun e w' => ∃ v, e = .returned (.tuple #[.int .u64 (parseN s.data.toList : Nat), v]) ∧ (valB s.data.toList < 2147483648 → v = .nilIface) ∧ (¬ valB s.data.toList < 2147483648 → ∃ t p, v = .iface t p) ∧ Below w.heap.size w w' := by
  have IP := Lib.hid (iparse_any s w hs h0 hd)
  obtain ⟨n, hn⟩ : ∃ n, n = parseN s.data.toList := ⟨_, rfl⟩
  rw [← hn] at IP ⊢
  have HE := Lib.hid he
  clear hn hd
  go_enter Tryd.func41, Tryd.ntmps41
  go_wp2_with fail
  refine IP.out.mono ?_
  rintro e w2 ⟨rfl, hb2⟩
  by_cases hv : valB s.data.toList < 2147483648
  · have hp : parseV s.data.toList = .nilIface := by unfold parseV; rw [if_pos hv]
    rw [hp]
    have HV := Lib.hid hv
    have HB := Lib.hid hb2
    clear hp hv hb2
    go_wp2_with fail
    go_ret2
    exact ⟨_, rfl, fun _ => rfl, fun h => absurd HV.out h, HB.out⟩
  · have hp : parseV s.data.toList = .iface 131 (.int .i64 1) := by unfold parseV; rw [if_neg hv]
    rw [hp]
    have HV := Lib.hid hv
    have HB := Lib.hid hb2
    obtain ⟨ev, h1, h2⟩ := HE.out.below hb2 HE.out.lt
    have TE := Lib.hid (fun fn => Tryd.strconv_toError_range fn s 10 31 ev w2 (by omega) h1 h2)
    clear hp hv hb2 h1 h2
    go_wp2_with fail
    refine (TE.out _).mono ?_
    rintro e w3 ⟨N, rfl, -, -, hb3⟩
    have HB3 := Lib.hid (HB.out.trans (hb3.mono HB.out.size))
    clear hb3
    go_wp2_with fail
    go_ret2
    exact ⟨_, rfl, fun h => absurd h HV.out, fun _ => ⟨_, _, rfl⟩, HB3.out⟩

/-- A step's mark, and its digits. -/
def isMark (c : UInt8) : Bool := c == 39 || c == 104 || c == 72
def hardB (l : List UInt8) : Bool := match l.getLast? with | some c => isMark c | none => false
def digs (l : List UInt8) : List UInt8 := if hardB l then l.dropLast else l
def stepE (l : List UInt8) : Int := if numOk (digs l) then (if valB (digs l) < 2147483648 then 0 else 2) else 3
def stepN (l : List UInt8) : Nat := if numOk (digs l) ∧ valB (digs l) < 2147483648 then (if hardB l then 2147483648 else 0) + valB (digs l) else 0
theorem mark_index (c : UInt8) : (0 ≤ Lib.indexByte [39, 104, 72] c) ↔ isMark c = true := by
  by_cases h1 : 39 = c
  · subst h1; decide
  · by_cases h2 : 104 = c
    · subst h2; decide
    · by_cases h3 : 72 = c
      · subst h3; decide
      · have e : Lib.indexByte [39, 104, 72] c = -1 := by simp [Lib.indexByte, h1, h2, h3]
        rw [e]
        constructor
        · intro h; omega
        · intro h
          unfold isMark at h
          simp only [Bool.or_eq_true, beq_iff_eq] at h
          rcases h with (rfl | rfl) | rfl
          · exact absurd rfl h1
          · exact absurd rfl h2
          · exact absurd rfl h3
theorem numOk_all {l : List UInt8} (h : numOk l = true) : l.all dB = true ∧ l ≠ [] := by
  unfold numOk at h
  rw [Bool.and_eq_true] at h
  refine ⟨h.1, ?_⟩
  rintro rfl
  simp at h

set_option maxRecDepth 100000 in
set_option maxHeartbeats 3200000 in
/-- What stands behind the mark: the digits and the mark's number are known. -/
theorem parseStep_any (s : ByteArray) (w : World) (hs : s.size ≤ 100000) (he : ErrOk w) :
    Calls Tryd.prog 25 #[.string s] w fun e w' => e = .returned (.tuple #[.int .u32 (stepN s.data.toList : Nat), .int .i64 (stepE s.data.toList)]) ∧ Below w.heap.size w w' := by
  have HE := Lib.hid he
  obtain ⟨D, hD⟩ : ∃ D : ByteArray, D = (if hardB s.data.toList then s.extract 0 (s.size - 1) else s) := ⟨_, rfl⟩
  have hDl : D.data.toList = digs s.data.toList := by
    rw [hD]
    unfold digs
    split
    · rw [ByteArray.data_extract]
      simp [List.dropLast_eq_take]
    · rfl
  have hDs : D.size ≤ 100000 := by
    rw [hD]
    split
    · rw [ByteArray.size_extract]; omega
    · exact hs
  have NU := Lib.hid (fun W => isNumber_any D W hDs)
  rw [hDl] at NU
  have HDL := Lib.hid hDl
  have HDS := Lib.hid hDs
  clear he hDl hDs
  go_enter Tryd.func25, Tryd.ntmps25
  go_upto_region 3 with fail
  by_cases hz : s.size = 0
  · have hh : hardB s.data.toList = false := by
      have : s.data.toList = [] := List.eq_nil_of_length_eq_zero (by rw [blen]; exact hz)
      rw [this]; rfl
    have hDD : s = D := by rw [hD, hh]; rfl
    have HH := Lib.hid hh
    clear hD hh
    subst hDD
    go_wp2_with fail
    refine (NU.out _).mono ?_
    rintro e w2 ⟨rfl, rfl⟩
    by_cases hok : numOk (digs s.data.toList) = true
    · rw [hok]
      obtain ⟨hall, hne⟩ := numOk_all hok
      have hD0 : 0 < s.size := by rw [← blen, HDL.out]; exact List.length_pos_iff.2 hne
      have UP := fun W hW => uparse_any s W HDS.out hD0 (by rw [HDL.out]; exact hall) hW
      rw [HDL.out] at UP
      have UPH := Lib.hid UP
      have HOK := Lib.hid hok
      clear hok hall hne hD0 UP
      go_wp2_with fail
      refine (UPH.out _ HE.out).mono ?_
      rintro e w3 ⟨v, rfl, hv1, hv2, hb3⟩
      have HB := Lib.hid hb3
      by_cases hv : valB (digs s.data.toList) < 2147483648
      · obtain rfl := hv1 hv
        have hpn : parseN (digs s.data.toList) = valB (digs s.data.toList) := by unfold parseN; rw [if_pos hv]
        rw [hpn]
        have hE : stepE s.data.toList = 0 := by unfold stepE; rw [HOK.out, if_pos hv]; rfl
        have hN : stepN s.data.toList = 0 + valB (digs s.data.toList) := by unfold stepN; rw [if_pos ⟨HOK.out, hv⟩, HH.out]; rfl
        obtain ⟨n, hn⟩ : ∃ n, n = valB (digs s.data.toList) := ⟨_, rfl⟩
        rw [← hn] at hN hv ⊢
        have q1 : IntKind.u32.wrap (n : Int) = (n : Int) := by rw [IntKind.wrap_u32]; omega
        have q2 : IntKind.u32.wrap (0 + (n : Int)) = 0 + (n : Int) := by rw [IntKind.wrap_u32]; omega
        have q3 : IntKind.u32.wrap ((n : Int) + 0) = 0 + (n : Int) := by rw [IntKind.wrap_u32]; omega
        have HE2 := Lib.hid hE
        have HN2 := Lib.hid hN
        have HLT := Lib.hid hv
        clear hv1 hv2 hb3 hpn hE hN hn
        go_wp2_with fail
        go_ret2
        exact ⟨by rw [HE2.out, HN2.out]; first | rfl | (congr 4; simp; omega) | (simp; done), HB.out⟩
      · obtain ⟨t, p, rfl⟩ := hv2 hv
        have hE : stepE s.data.toList = 2 := by unfold stepE; rw [HOK.out, if_neg hv]; rfl
        have hN : stepN s.data.toList = 0 := by unfold stepN; rw [if_neg (fun h => hv h.2)]
        have HE2 := Lib.hid hE
        have HN2 := Lib.hid hN
        clear hv1 hv2 hb3 hE hN hv
        go_wp2_with fail
        go_ret2
        exact ⟨by rw [HE2.out, HN2.out]; rfl, HB.out⟩
    · have hok2 : numOk (digs s.data.toList) = false := by simpa using hok
      rw [hok2]
      have hE : stepE s.data.toList = 3 := by unfold stepE; rw [hok2]; rfl
      have hN : stepN s.data.toList = 0 := by unfold stepN; rw [if_neg (fun h => hok h.1)]
      have HE2 := Lib.hid hE
      have HN2 := Lib.hid hN
      clear hok hok2 hE hN
      go_wp2_with fail
      go_ret2
      exact ⟨by rw [HE2.out, HN2.out]; rfl, Below.refl _ _⟩
  · obtain ⟨n, hn⟩ : ∃ n, s.size = n + 1 := ⟨s.size - 1, by omega⟩
    have hlt : n < s.size := by omega
    have hgl : s.data.toList.getLast? = some s[n] := by
      rw [List.getLast?_eq_getElem?, blen, hn, Nat.add_sub_cancel, List.getElem?_eq_getElem (by rw [blen]; exact hlt)]
      rfl
    have g1 : decide (0 ≤ (s.size : Int) - 1) = true := decide_eq_true (by omega)
    have g2 : (s.size : Int) - 1 = (n : Int) := by omega
    have hH : hardB s.data.toList = isMark s[n] := by unfold hardB; rw [hgl]
    have hmi := mark_index s[n]
    have IB := Lib.hid (fun W => Tryd.strings_IndexByte ⟨#[39, 104, 72]⟩ (s[n].toNat : Int) W)
    have hu8 : ((s[n].toNat : Int)).toNat.toUInt8 = s[n] := by
      rw [Int.toNat_natCast]
      exact UInt8.ofNat_toNat
    rw [hu8] at IB
    have HHM := Lib.hid hH
    have HMI := Lib.hid hmi
    rw [g2]
    clear hgl hH hmi hu8 hz g2
    go_wp2_with fail
    refine (IB.out _).mono ?_
    rintro e w2 ⟨rfl, rfl⟩
    obtain ⟨J, hJ⟩ : ∃ J, J = Lib.indexByte [39, 104, 72] s[n] := ⟨_, rfl⟩
    have HMJ := Lib.hid (show 0 ≤ J ↔ isMark s[n] = true by rw [hJ]; exact HMI.out)
    have hJ2 : Lib.indexByte (ByteArray.mk #[39, 104, 72]).data.toList s[n] = J := hJ.symm
    rw [hJ2]
    clear hJ hJ2
    by_cases hj : 0 ≤ J
    · have hh : hardB s.data.toList = true := by rw [HHM.out]; exact HMJ.out.1 hj
      have hDD : D = s.extract 0 n := by rw [hD, hh, hn]; rfl
      have HDD := Lib.hid hDD
      have HH := Lib.hid hh
      have g3 : decide (0 ≤ J) = true := decide_eq_true hj
      clear hD hh hj hDD
      go_wp2_with fail
      rw [← HDD.out]
      refine (NU.out _).mono ?_
      rintro e w2 ⟨rfl, rfl⟩
      by_cases hok : numOk (digs s.data.toList) = true
      · rw [hok]
        obtain ⟨hall, hne⟩ := numOk_all hok
        have hD0 : 0 < D.size := by rw [← blen, HDL.out]; exact List.length_pos_iff.2 hne
        have UP := fun W hW => uparse_any D W HDS.out hD0 (by rw [HDL.out]; exact hall) hW
        rw [HDL.out] at UP
        have UPH := Lib.hid UP
        have HOK := Lib.hid hok
        clear hok hall hne hD0 UP
        go_wp2_with fail
        refine (UPH.out _ HE.out).mono ?_
        rintro e w3 ⟨v, rfl, hv1, hv2, hb3⟩
        have HB := Lib.hid hb3
        by_cases hv : valB (digs s.data.toList) < 2147483648
        · obtain rfl := hv1 hv
          have hpn : parseN (digs s.data.toList) = valB (digs s.data.toList) := by unfold parseN; rw [if_pos hv]
          rw [hpn]
          have hE : stepE s.data.toList = 0 := by unfold stepE; rw [HOK.out, if_pos hv]; rfl
          have hN : stepN s.data.toList = 2147483648 + valB (digs s.data.toList) := by unfold stepN; rw [if_pos ⟨HOK.out, hv⟩, HH.out]; rfl
          obtain ⟨n, hn⟩ : ∃ n, n = valB (digs s.data.toList) := ⟨_, rfl⟩
          rw [← hn] at hN hv ⊢
          have q1 : IntKind.u32.wrap (n : Int) = (n : Int) := by rw [IntKind.wrap_u32]; omega
          have q2 : IntKind.u32.wrap (2147483648 + (n : Int)) = 2147483648 + (n : Int) := by rw [IntKind.wrap_u32]; omega
          have q3 : IntKind.u32.wrap ((n : Int) + 2147483648) = 2147483648 + (n : Int) := by rw [IntKind.wrap_u32]; omega
          have HE2 := Lib.hid hE
          have HN2 := Lib.hid hN
          have HLT := Lib.hid hv
          clear hv1 hv2 hb3 hpn hE hN hn
          go_wp2_with fail
          go_ret2
          exact ⟨by rw [HE2.out, HN2.out]; first | rfl | (congr 4; simp; omega) | (simp; done), HB.out⟩
        · obtain ⟨t, p, rfl⟩ := hv2 hv
          have hE : stepE s.data.toList = 2 := by unfold stepE; rw [HOK.out, if_neg hv]; rfl
          have hN : stepN s.data.toList = 0 := by unfold stepN; rw [if_neg (fun h => hv h.2)]
          have HE2 := Lib.hid hE
          have HN2 := Lib.hid hN
          clear hv1 hv2 hb3 hE hN hv
          go_wp2_with fail
          go_ret2
          exact ⟨by rw [HE2.out, HN2.out]; rfl, HB.out⟩
      · have hok2 : numOk (digs s.data.toList) = false := by simpa using hok
        rw [hok2]
        have hE : stepE s.data.toList = 3 := by unfold stepE; rw [hok2]; rfl
        have hN : stepN s.data.toList = 0 := by unfold stepN; rw [if_neg (fun h => hok h.1)]
        have HE2 := Lib.hid hE
        have HN2 := Lib.hid hN
        clear hok hok2 hE hN
        go_wp2_with fail
        go_ret2
        exact ⟨by rw [HE2.out, HN2.out]; rfl, Below.refl _ _⟩
    · have hh : hardB s.data.toList = false := by
        rw [HHM.out]
        cases hm : isMark s[n] with
        | false => rfl
        | true => exact absurd (HMJ.out.2 hm) hj
      have hDD : s = D := by rw [hD, hh]; rfl
      have HH := Lib.hid hh
      have g3 : decide (0 ≤ J) = false := decide_eq_false hj
      clear hD hh hj
      subst hDD
      go_wp2_with fail
      refine (NU.out _).mono ?_
      rintro e w2 ⟨rfl, rfl⟩
      by_cases hok : numOk (digs s.data.toList) = true
      · rw [hok]
        obtain ⟨hall, hne⟩ := numOk_all hok
        have hD0 : 0 < s.size := by rw [← blen, HDL.out]; exact List.length_pos_iff.2 hne
        have UP := fun W hW => uparse_any s W HDS.out hD0 (by rw [HDL.out]; exact hall) hW
        rw [HDL.out] at UP
        have UPH := Lib.hid UP
        have HOK := Lib.hid hok
        clear hok hall hne hD0 UP
        go_wp2_with fail
        refine (UPH.out _ HE.out).mono ?_
        rintro e w3 ⟨v, rfl, hv1, hv2, hb3⟩
        have HB := Lib.hid hb3
        by_cases hv : valB (digs s.data.toList) < 2147483648
        · obtain rfl := hv1 hv
          have hpn : parseN (digs s.data.toList) = valB (digs s.data.toList) := by unfold parseN; rw [if_pos hv]
          rw [hpn]
          have hE : stepE s.data.toList = 0 := by unfold stepE; rw [HOK.out, if_pos hv]; rfl
          have hN : stepN s.data.toList = 0 + valB (digs s.data.toList) := by unfold stepN; rw [if_pos ⟨HOK.out, hv⟩, HH.out]; rfl
          obtain ⟨n, hn⟩ : ∃ n, n = valB (digs s.data.toList) := ⟨_, rfl⟩
          rw [← hn] at hN hv ⊢
          have q1 : IntKind.u32.wrap (n : Int) = (n : Int) := by rw [IntKind.wrap_u32]; omega
          have q2 : IntKind.u32.wrap (0 + (n : Int)) = 0 + (n : Int) := by rw [IntKind.wrap_u32]; omega
          have q3 : IntKind.u32.wrap ((n : Int) + 0) = 0 + (n : Int) := by rw [IntKind.wrap_u32]; omega
          have HE2 := Lib.hid hE
          have HN2 := Lib.hid hN
          have HLT := Lib.hid hv
          clear hv1 hv2 hb3 hpn hE hN hn
          go_wp2_with fail
          go_ret2
          exact ⟨by rw [HE2.out, HN2.out]; first | rfl | (congr 4; simp; omega) | (simp; done), HB.out⟩
        · obtain ⟨t, p, rfl⟩ := hv2 hv
          have hE : stepE s.data.toList = 2 := by unfold stepE; rw [HOK.out, if_neg hv]; rfl
          have hN : stepN s.data.toList = 0 := by unfold stepN; rw [if_neg (fun h => hv h.2)]
          have HE2 := Lib.hid hE
          have HN2 := Lib.hid hN
          clear hv1 hv2 hb3 hE hN hv
          go_wp2_with fail
          go_ret2
          exact ⟨by rw [HE2.out, HN2.out]; rfl, HB.out⟩
      · have hok2 : numOk (digs s.data.toList) = false := by simpa using hok
        rw [hok2]
        have hE : stepE s.data.toList = 3 := by unfold stepE; rw [hok2]; rfl
        have hN : stepN s.data.toList = 0 := by unfold stepN; rw [if_neg (fun h => hok h.1)]
        have HE2 := Lib.hid hE
        have HN2 := Lib.hid hN
        clear hok hok2 hE hN
        go_wp2_with fail
        go_ret2
        exact ⟨by rw [HE2.out, HN2.out]; rfl, Below.refl _ _⟩
end Go.Proofs.YtfkpdbmgiefnfaaDoor.Hk
