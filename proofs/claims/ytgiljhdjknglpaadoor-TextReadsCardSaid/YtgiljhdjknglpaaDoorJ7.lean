/-
  Texts joined: Shelf, TEq, BcPart. Conditions: those of each.
-/
import Derived.Shelf.Strings.OnBuilder
import Derived.Shelf.Strings.LastIndex
import Derived.Test.YtgiljhdjknglpaaDoorProg
import Derived.Test.YtgiljhdjknglpaaDoorJ5
import Derived.Test.YtgiljhdjknglpaaDoorJ6
/-
  DERIVED: THE SHELF's CONTRACTS AT THIS DUMP, IN PLAIN WORDS (tools/lay-plain.mjs out of 'TrydShelf.lean', which tools/lay-shelf.mjs wrote): THE SAME DECLARATIONS UNDER THE SAME NAMES: 'import', 'namespace', 'open', 'def', 'theorem' AND NOTHING ELSE: no command of the shelf's: FOR A HAND-IN. Each laying: the table of numbers ('.._ren') and one theorem, a field a fact of the dump's own or the kernel's comparison; each contract: ONE APPLICATION.
-/
namespace Go.Proofs
open Go.Shelf
def Tryd.lays158_ren : Go.Shelf.Ren := ⟨fun | 158 => 46 | 165 => 58 | 166 => 59 | 167 => 60 | 169 => 61 | 230 => 62 | 203 => 64 | 240 => 69 | 241 => 70 | 197 => 71 | 118 => 72 | 168 => 73 | 270 => 74 | 262 => 75 | 276 => 79 | 277 => 80 | 260 => 81 | 242 => 82 | 313 => 83 | 278 => 88 | 274 => 89 | 275 => 90 | n => n, fun | 9 => 9 | 4 => 4 | 3 => 3 | 5 => 5 | 72 => 89 | 0 => 0 | 76 => 93 | 75 => 92 | 107 => 98 | 70 => 87 | 20 => 20 | 37 => 23 | 127 => 100 | 21 => 21 | 105 => 101 | 164 => 116 | 162 => 122 | 203 => 120 | 119 => 131 | 46 => 58 | 139 => 134 | 138 => 133 | 51 => 107 | 160 => 135 | 208 => 143 | 206 => 141 | 80 => 96 | n => n, fun | 13 => 3 | 3 => 4 | 4 => 5 | n => n⟩
theorem Tryd.lays158 : Go.Proofs.Lays.n158 Tryd.prog Tryd.lays158_ren := {
  mixed := by kernel_rfl
  f118 := Tryd.func72.trans (congrArg some (by kernel_rfl))
  f158 := Tryd.func46.trans (congrArg some (by kernel_rfl))
  f165 := Tryd.func58.trans (congrArg some (by kernel_rfl))
  f166 := Tryd.func59.trans (congrArg some (by kernel_rfl))
  f167 := Tryd.func60.trans (congrArg some (by kernel_rfl))
  f168 := Tryd.func73.trans (congrArg some (by kernel_rfl))
  f169 := Tryd.func61.trans (congrArg some (by kernel_rfl))
  f197 := Tryd.func71.trans (congrArg some (by kernel_rfl))
  f203 := Tryd.func64.trans (congrArg some (by kernel_rfl))
  f230 := Tryd.func62.trans (congrArg some (by kernel_rfl))
  f240 := Tryd.func69.trans (congrArg some (by kernel_rfl))
  f241 := Tryd.func70.trans (congrArg some (by kernel_rfl))
  f242 := Tryd.func82.trans (congrArg some (by kernel_rfl))
  f260 := Tryd.func81.trans (congrArg some (by kernel_rfl))
  f262 := Tryd.func75.trans (congrArg some (by kernel_rfl))
  f270 := Tryd.func74.trans (congrArg some (by kernel_rfl))
  f274 := Tryd.func89.trans (congrArg some (by kernel_rfl))
  f275 := Tryd.func90.trans (congrArg some (by kernel_rfl))
  f276 := Tryd.func79.trans (congrArg some (by kernel_rfl))
  f277 := Tryd.func80.trans (congrArg some (by kernel_rfl))
  f278 := Tryd.func88.trans (congrArg some (by kernel_rfl))
  f313 := Tryd.func83.trans (congrArg some (by kernel_rfl))
  t0 := Tryd.underlying0
  a0 := Tryd.isAgg0
  z0 := Tryd.sizeOf0
  v0 := Tryd.zeroValue0
  t3 := Tryd.underlying3
  a3 := Tryd.isAgg3
  z3 := Tryd.sizeOf3
  v3 := Tryd.zeroValue3
  t4 := Tryd.underlying4
  a4 := Tryd.isAgg4
  z4 := Tryd.sizeOf4
  v4 := Tryd.zeroValue4
  t5 := Tryd.underlying5
  a5 := Tryd.isAgg5
  z5 := Tryd.sizeOf5
  v5 := Tryd.zeroValue5
  t9 := Tryd.underlying9
  a9 := Tryd.isAgg9
  z9 := Tryd.sizeOf9
  v9 := Tryd.zeroValue9
  t20 := Tryd.underlying20
  a20 := Tryd.isAgg20
  z20 := Tryd.sizeOf20
  v20 := Tryd.zeroValue20
  t21 := Tryd.underlying21
  a21 := Tryd.isAgg21
  z21 := Tryd.sizeOf21
  v21 := Tryd.zeroValue21
  t37 := Tryd.underlying23
  a37 := Tryd.isAgg23
  z37 := Tryd.sizeOf23
  v37 := Tryd.zeroValue23
  t46 := Tryd.underlying58
  a46 := Tryd.isAgg58
  z46 := Tryd.sizeOf58
  v46 := Tryd.zeroValue58
  t51 := Tryd.underlying107
  a51 := Tryd.isAgg107
  z51 := Tryd.sizeOf107
  v51 := Tryd.zeroValue107
  t70 := Tryd.underlying87
  a70 := Tryd.isAgg87
  z70 := Tryd.sizeOf87
  v70 := Tryd.zeroValue87
  t72 := Tryd.underlying89
  a72 := Tryd.isAgg89
  z72 := Tryd.sizeOf89
  v72 := Tryd.zeroValue89
  t75 := Tryd.underlying92
  a75 := Tryd.isAgg92
  z75 := Tryd.sizeOf92
  v75 := Tryd.zeroValue92
  t76 := Tryd.underlying93
  a76 := Tryd.isAgg93
  z76 := Tryd.sizeOf93
  v76 := Tryd.zeroValue93
  t105 := Tryd.underlying101
  a105 := Tryd.isAgg101
  z105 := Tryd.sizeOf101
  v105 := Tryd.zeroValue101
  t107 := Tryd.underlying98
  a107 := Tryd.isAgg98
  z107 := Tryd.sizeOf98
  v107 := Tryd.zeroValue98
  t119 := Tryd.underlying131
  a119 := Tryd.isAgg131
  z119 := Tryd.sizeOf131
  t127 := Tryd.underlying100
  a127 := Tryd.isAgg100
  z127 := Tryd.sizeOf100
  v127 := Tryd.zeroValue100
  t138 := Tryd.underlying133
  a138 := Tryd.isAgg133
  z138 := Tryd.sizeOf133
  v138 := Tryd.zeroValue133
  t139 := Tryd.underlying134
  a139 := Tryd.isAgg134
  z139 := Tryd.sizeOf134
  v139 := Tryd.zeroValue134
  t160 := Tryd.underlying135
  a160 := Tryd.isAgg135
  z160 := Tryd.sizeOf135
  v160 := Tryd.zeroValue135
  t162 := Tryd.underlying122
  a162 := Tryd.isAgg122
  z162 := Tryd.sizeOf122
  v162 := Tryd.zeroValue122
  t164 := Tryd.underlying116
  a164 := Tryd.isAgg116
  z164 := Tryd.sizeOf116
  v164 := Tryd.zeroValue116
  t203 := Tryd.underlying120
  a203 := Tryd.isAgg120
  z203 := Tryd.sizeOf120
  v203 := Tryd.zeroValue120
  t206 := Tryd.underlying141
  a206 := Tryd.isAgg141
  z206 := Tryd.sizeOf141
  v206 := Tryd.zeroValue141
  t208 := Tryd.underlying143
  a208 := Tryd.isAgg143
  z208 := Tryd.sizeOf143
  v208 := Tryd.zeroValue143
  g3 := by kernel_rfl
  g4 := by kernel_rfl
  g13 := by kernel_rfl }
theorem Tryd.Builder_Extra_158 : Builder.Extra Tryd.prog Tryd.lays158_ren := {
  sizeBuilder := by kernel_rfl
  liesBuilder := by kernel_rfl
  t5 := Tryd.underlying5
  a5 := Tryd.isAgg5
  z5 := Tryd.sizeOf5
  v5 := Tryd.zeroValue5
  infoByte := by kernel_rfl
  cellsByte := by kernel_rfl
  sizeByte := by kernel_rfl
  neB5 := by decide }
open Go.RowKit in
/-- strings.ToUpper: "ToUpper returns s with all Unicode letters mapped to their upper case.": ON ASCII TEXT OF AT MOST 2^47 BYTES. Below the heap's end the world is as it was: where a letter turns, the call makes a builder and its buffer. (LAID: no walk: one application.) -/
theorem Tryd.strings_ToUpper_ascii (s : ByteArray) (w : World) (hs : s.size ≤ 140737488355328) (hascii : ∀ (j : Nat) (b : UInt8), s.data.toList[j]? = some b → b.toNat < 128) :
    Calls Tryd.prog 46 #[.string s] w fun e w' => e = .returned (.string ⟨(Lib.toUpperA s.data.toList).toArray⟩) ∧ Below w.heap.size w w' := Any.strings_ToUpper_ascii Tryd.lays158 Tryd.Builder_Extra_158 s w hs hascii
def Tryd.lays159_ren : Go.Shelf.Ren := ⟨fun | 159 => 45 | 165 => 58 | 166 => 59 | 167 => 60 | 169 => 61 | 230 => 62 | 204 => 63 | 240 => 69 | 241 => 70 | 197 => 71 | 118 => 72 | 168 => 73 | 270 => 74 | 262 => 75 | 276 => 79 | 277 => 80 | 260 => 81 | 242 => 82 | 313 => 83 | 278 => 88 | 274 => 89 | 275 => 90 | n => n, fun | 9 => 9 | 4 => 4 | 3 => 3 | 5 => 5 | 72 => 89 | 0 => 0 | 76 => 93 | 75 => 92 | 107 => 98 | 70 => 87 | 20 => 20 | 37 => 23 | 127 => 100 | 21 => 21 | 105 => 101 | 164 => 116 | 162 => 122 | 203 => 120 | 119 => 131 | 46 => 58 | 139 => 134 | 138 => 133 | 51 => 107 | 160 => 135 | 208 => 143 | 206 => 141 | 80 => 96 | n => n, fun | 13 => 3 | 3 => 4 | 4 => 5 | n => n⟩
theorem Tryd.lays159 : Go.Proofs.Lays.n159 Tryd.prog Tryd.lays159_ren := {
  mixed := by kernel_rfl
  f118 := Tryd.func72.trans (congrArg some (by kernel_rfl))
  f159 := Tryd.func45.trans (congrArg some (by kernel_rfl))
  f165 := Tryd.func58.trans (congrArg some (by kernel_rfl))
  f166 := Tryd.func59.trans (congrArg some (by kernel_rfl))
  f167 := Tryd.func60.trans (congrArg some (by kernel_rfl))
  f168 := Tryd.func73.trans (congrArg some (by kernel_rfl))
  f169 := Tryd.func61.trans (congrArg some (by kernel_rfl))
  f197 := Tryd.func71.trans (congrArg some (by kernel_rfl))
  f204 := Tryd.func63.trans (congrArg some (by kernel_rfl))
  f230 := Tryd.func62.trans (congrArg some (by kernel_rfl))
  f240 := Tryd.func69.trans (congrArg some (by kernel_rfl))
  f241 := Tryd.func70.trans (congrArg some (by kernel_rfl))
  f242 := Tryd.func82.trans (congrArg some (by kernel_rfl))
  f260 := Tryd.func81.trans (congrArg some (by kernel_rfl))
  f262 := Tryd.func75.trans (congrArg some (by kernel_rfl))
  f270 := Tryd.func74.trans (congrArg some (by kernel_rfl))
  f274 := Tryd.func89.trans (congrArg some (by kernel_rfl))
  f275 := Tryd.func90.trans (congrArg some (by kernel_rfl))
  f276 := Tryd.func79.trans (congrArg some (by kernel_rfl))
  f277 := Tryd.func80.trans (congrArg some (by kernel_rfl))
  f278 := Tryd.func88.trans (congrArg some (by kernel_rfl))
  f313 := Tryd.func83.trans (congrArg some (by kernel_rfl))
  t0 := Tryd.underlying0
  a0 := Tryd.isAgg0
  z0 := Tryd.sizeOf0
  v0 := Tryd.zeroValue0
  t3 := Tryd.underlying3
  a3 := Tryd.isAgg3
  z3 := Tryd.sizeOf3
  v3 := Tryd.zeroValue3
  t4 := Tryd.underlying4
  a4 := Tryd.isAgg4
  z4 := Tryd.sizeOf4
  v4 := Tryd.zeroValue4
  t5 := Tryd.underlying5
  a5 := Tryd.isAgg5
  z5 := Tryd.sizeOf5
  v5 := Tryd.zeroValue5
  t9 := Tryd.underlying9
  a9 := Tryd.isAgg9
  z9 := Tryd.sizeOf9
  v9 := Tryd.zeroValue9
  t20 := Tryd.underlying20
  a20 := Tryd.isAgg20
  z20 := Tryd.sizeOf20
  v20 := Tryd.zeroValue20
  t21 := Tryd.underlying21
  a21 := Tryd.isAgg21
  z21 := Tryd.sizeOf21
  v21 := Tryd.zeroValue21
  t37 := Tryd.underlying23
  a37 := Tryd.isAgg23
  z37 := Tryd.sizeOf23
  v37 := Tryd.zeroValue23
  t46 := Tryd.underlying58
  a46 := Tryd.isAgg58
  z46 := Tryd.sizeOf58
  v46 := Tryd.zeroValue58
  t51 := Tryd.underlying107
  a51 := Tryd.isAgg107
  z51 := Tryd.sizeOf107
  v51 := Tryd.zeroValue107
  t70 := Tryd.underlying87
  a70 := Tryd.isAgg87
  z70 := Tryd.sizeOf87
  v70 := Tryd.zeroValue87
  t72 := Tryd.underlying89
  a72 := Tryd.isAgg89
  z72 := Tryd.sizeOf89
  v72 := Tryd.zeroValue89
  t75 := Tryd.underlying92
  a75 := Tryd.isAgg92
  z75 := Tryd.sizeOf92
  v75 := Tryd.zeroValue92
  t76 := Tryd.underlying93
  a76 := Tryd.isAgg93
  z76 := Tryd.sizeOf93
  v76 := Tryd.zeroValue93
  t105 := Tryd.underlying101
  a105 := Tryd.isAgg101
  z105 := Tryd.sizeOf101
  v105 := Tryd.zeroValue101
  t107 := Tryd.underlying98
  a107 := Tryd.isAgg98
  z107 := Tryd.sizeOf98
  v107 := Tryd.zeroValue98
  t119 := Tryd.underlying131
  a119 := Tryd.isAgg131
  z119 := Tryd.sizeOf131
  t127 := Tryd.underlying100
  a127 := Tryd.isAgg100
  z127 := Tryd.sizeOf100
  v127 := Tryd.zeroValue100
  t138 := Tryd.underlying133
  a138 := Tryd.isAgg133
  z138 := Tryd.sizeOf133
  v138 := Tryd.zeroValue133
  t139 := Tryd.underlying134
  a139 := Tryd.isAgg134
  z139 := Tryd.sizeOf134
  v139 := Tryd.zeroValue134
  t160 := Tryd.underlying135
  a160 := Tryd.isAgg135
  z160 := Tryd.sizeOf135
  v160 := Tryd.zeroValue135
  t162 := Tryd.underlying122
  a162 := Tryd.isAgg122
  z162 := Tryd.sizeOf122
  v162 := Tryd.zeroValue122
  t164 := Tryd.underlying116
  a164 := Tryd.isAgg116
  z164 := Tryd.sizeOf116
  v164 := Tryd.zeroValue116
  t203 := Tryd.underlying120
  a203 := Tryd.isAgg120
  z203 := Tryd.sizeOf120
  v203 := Tryd.zeroValue120
  t206 := Tryd.underlying141
  a206 := Tryd.isAgg141
  z206 := Tryd.sizeOf141
  v206 := Tryd.zeroValue141
  t208 := Tryd.underlying143
  a208 := Tryd.isAgg143
  z208 := Tryd.sizeOf143
  v208 := Tryd.zeroValue143
  g3 := by kernel_rfl
  g4 := by kernel_rfl
  g13 := by kernel_rfl }
theorem Tryd.Builder_Extra_159 : Builder.Extra Tryd.prog Tryd.lays159_ren := {
  sizeBuilder := by kernel_rfl
  liesBuilder := by kernel_rfl
  t5 := Tryd.underlying5
  a5 := Tryd.isAgg5
  z5 := Tryd.sizeOf5
  v5 := Tryd.zeroValue5
  infoByte := by kernel_rfl
  cellsByte := by kernel_rfl
  sizeByte := by kernel_rfl
  neB5 := by decide }
open Go.RowKit in
/-- strings.ToLower: "ToLower returns s with all Unicode letters mapped to their lower case.": ON ASCII TEXT OF AT MOST 2^47 BYTES. Below the heap's end the world is as it was: where a letter turns, the call makes a builder and its buffer. (LAID: no walk: one application.) -/
theorem Tryd.strings_ToLower_ascii (s : ByteArray) (w : World) (hs : s.size ≤ 140737488355328) (hascii : ∀ (j : Nat) (b : UInt8), s.data.toList[j]? = some b → b.toNat < 128) :
    Calls Tryd.prog 45 #[.string s] w fun e w' => e = .returned (.string ⟨(Lib.toLowerA s.data.toList).toArray⟩) ∧ Below w.heap.size w w' := Any.strings_ToLower_ascii Tryd.lays159 Tryd.Builder_Extra_159 s w hs hascii
def Tryd.lays149_ren : Go.Shelf.Ren := ⟨fun | 149 => 47 | 222 => 65 | n => n, fun | 9 => 9 | 5 => 5 | 3 => 3 | 4 => 4 | n => n, fun | n => n⟩
theorem Tryd.lays149 : Go.Proofs.Lays.n149 Tryd.prog Tryd.lays149_ren := {
  mixed := by kernel_rfl
  f149 := Tryd.func47.trans (congrArg some (by kernel_rfl))
  f222 := Tryd.func65.trans (congrArg some (by kernel_rfl))
  t3 := Tryd.underlying3
  a3 := Tryd.isAgg3
  z3 := Tryd.sizeOf3
  v3 := Tryd.zeroValue3
  t4 := Tryd.underlying4
  a4 := Tryd.isAgg4
  z4 := Tryd.sizeOf4
  v4 := Tryd.zeroValue4
  t5 := Tryd.underlying5
  a5 := Tryd.isAgg5
  z5 := Tryd.sizeOf5
  v5 := Tryd.zeroValue5
  t9 := Tryd.underlying9
  a9 := Tryd.isAgg9
  z9 := Tryd.sizeOf9
  v9 := Tryd.zeroValue9 }
open Go.RowKit Go.Lib in
/-- strings.LastIndexByte: "LastIndexByte returns the index of the last instance of c in s, or -1 if c is not present in s." (LAID: no walk: one application.) -/
theorem Tryd.strings_LastIndexByte (s : ByteArray) (c : Int) (hs : s.size < 4611686018427387904) (w : World) :
    Calls Tryd.prog 47 #[.string s, .int .u8 c] w fun e w' => e = .returned (.int .i64 (Lib.lastIndexByte s c)) ∧ w' = w := Any.strings_LastIndexByte Tryd.lays149 s c hs w
end Go.Proofs

/-
  The references' Equal, and the laws' short. Conditions: none.
-/
namespace Go.Proofs.YtgiljhdjknglpaaDoor
open Go.RowKit

set_option maxRecDepth 100000 in
set_option maxHeartbeats 400000 in
theorem equal_any (B B' : Nat) (x y : Value) (xs ys : List UInt8) (w : World) (hx : Byt w B x xs) (hy : Byt w B' y ys) :
    Calls Tryd.prog 8 #[x, y] w fun e w' => e = .returned (.bool (xs == ys)) ∧ w = w' := by
  have h1 := run_string_of (P := Tryd.prog) w 23 9 5 slice_u8 Tryd.underlying5 Tryd.underlying9 B x xs hx
  have h2 := run_string_of (P := Tryd.prog) w 23 9 5 slice_u8 Tryd.underlying5 Tryd.underlying9 B' y ys hy
  go_enter Tryd.func8, Tryd.ntmps8
  go_wp2
  go_ret
  exact ⟨rfl, rfl⟩

theorem equal_yes (B B' : Nat) (x y : Value) (xs ys : List UInt8) (w : World) (hx : Byt w B x xs) (hy : Byt w B' y ys) (h : xs = ys) :
    Calls Tryd.prog 8 #[x, y] w fun e w' => e = .returned (.bool true) ∧ w = w' :=
  (equal_any B B' x y xs ys w hx hy).mono fun _ _ ⟨he, hw⟩ => ⟨by rw [he, h]; simp, hw⟩

theorem Byt.take_ {w : World} {B c : Nat} {A : Option Addr} {xs : List UInt8} (h : Byt w B (.slice A xs.length c) xs) {k : Nat} (hk : k ≤ xs.length) : Byt w B (.slice A k c) (xs.take k) := by
  obtain ⟨A', c', e, h1, h2, h3, h4⟩ := h
  injection e with e1 e2 e3
  subst e1 e3
  refine ⟨A, c, by rw [List.length_take, Nat.min_eq_left hk], by rw [List.length_take]; omega, h2, fun h => ?_, fun hne => ?_⟩
  · obtain ⟨rfl, hc⟩ := h3 h
    exact ⟨by simp, hc⟩
  · obtain ⟨b, o, e1, hb, hc⟩ := h4 (by rintro rfl; simp at hne)
    refine ⟨b, o, e1, hb, fun j u hu => hc j u ?_⟩
    rw [List.getElem?_take] at hu
    split at hu
    · exact hu
    · cases hu

end Go.Proofs.YtgiljhdjknglpaaDoor

/-
  text.isPrintable, text.isPart; slices.ContainsFunc with the test of wide values. Conditions: sizes within the reach.
-/
namespace Go.Proofs.YtgiljhdjknglpaaDoor
open Go.RowKit

set_option maxRecDepth 100000 in
set_option maxHeartbeats 1600000 in
theorem printable_any (s : ByteArray) (w : World) (hs : s.size ≤ 140737488355328) :
    Calls Tryd.prog 44 #[.string s] w fun e w' => e = .returned (.bool (s.data.toList.all okB)) ∧ w = w' := by
  obtain ⟨h, hh⟩ : ∃ h, h = s.data.toList := ⟨_, rfl⟩
  have hhs : h.length = s.size := by rw [hh]; rfl
  rw [← hh]
  have HH := Lib.hid hh
  have HHS := Lib.hid hhs
  clear hh hhs
  go_enter Tryd.func44, Tryd.ntmps44
  go_wp2_with fail
  go_loopw [6] (fun j wr => ∃ i : Nat, i ≤ s.size ∧ j = .int .i64 i ∧ wr = w ∧ Hid (∀ c ∈ h.take i, okB c = true)) (fun j _ => s.size - (intOf j).toNat)
  case atStart => exact ⟨0, Nat.zero_le _, rfl, rfl, Lib.hid (by simp)⟩
  case round =>
    obtain ⟨i, hi, rfl, rfl, hall⟩ := hrel
    by_cases hlt : i < s.size
    · obtain ⟨q, hq⟩ : ∃ q, q = s[i]'hlt := ⟨_, rfl⟩
      have hqi : h[i]? = some q := by rw [HH.out, hq]; exact Lib.data_getElem? s i hlt
      have hqs : (s[i]'hlt) = q := hq.symm
      have hbad : okB q = false → h.all okB = false := fun hf => by
        rw [List.all_eq_false]
        exact ⟨q, List.mem_of_getElem? hqi, by rw [hf]; simp⟩
      have htk : h.take (i + 1) = h.take i ++ [q] := by rw [List.take_add_one, hqi]; rfl
      have HBAD := Lib.hid hbad
      have HTK := Lib.hid htk
      clear hq hqi hbad htk
      by_cases h1 : (q.toNat : Int) < 33
      · have d1 : decide ((q.toNat : Int) < 33) = true := decide_eq_true h1
        have hf := HBAD.out (by unfold okB; rw [decide_eq_false (by omega)]; rfl)
        have HF := Lib.hid hf
        clear h1 hf
        go_wp2
        go_ret
        exact ⟨by rw [HF.out]; rfl, rfl⟩
      · have d1 : decide ((q.toNat : Int) < 33) = false := decide_eq_false h1
        by_cases h2 : 126 < (q.toNat : Int)
        · have d2 : decide (126 < (q.toNat : Int)) = true := decide_eq_true h2
          have hf := HBAD.out (by unfold okB; rw [decide_eq_false (show ¬ (q.toNat : Int) ≤ 126 by omega), Bool.and_false])
          have HF := Lib.hid hf
          clear h1 h2 hf
          go_wp2
          go_ret
          exact ⟨by rw [HF.out]; rfl, rfl⟩
        · have d2 : decide (126 < (q.toNat : Int)) = false := decide_eq_false h2
          have hok : okB q = true := by unfold okB; rw [decide_eq_true (show (33 : Int) ≤ (q.toNat : Int) by omega), decide_eq_true (show (q.toNat : Int) ≤ 126 by omega)]; rfl
          have hnext : ∀ c ∈ h.take (i + 1), okB c = true := by
            rw [HTK.out]
            intro c hc
            rcases List.mem_append.1 hc with h3 | h3
            · exact hall.out c h3
            · rw [List.mem_singleton.1 h3]; exact hok
          have HN := Lib.hid hnext
          clear h1 h2 hok hnext hall
          go_wp2
          exact ⟨⟨i + 1, by omega, by go_num, trivial, HN⟩, by simp [intOf]; omega⟩
    · have hall2 : h.all okB = true := by
        rw [List.all_eq_true]
        intro c hc
        refine hall.out c ?_
        rw [List.take_of_length_le (by have := HHS.out; omega)]
        exact hc
      have HA := Lib.hid hall2
      clear hall hall2
      go_wp2
      go_ret
      exact ⟨by rw [HA.out]; rfl, rfl⟩

theorem ok_ascii {l : List UInt8} (h : l.all okB = true) : ∀ (j : Nat) (b : UInt8), l[j]? = some b → b.toNat < 128 := by
  intro j b hb
  have := List.all_eq_true.1 h b (List.mem_of_getElem? hb)
  unfold okB at this
  simp only [Bool.and_eq_true, decide_eq_true_eq] at this
  omega

theorem ret_bool {a b : Bool} (h : a = b) : Ending.returned (.bool a) = Ending.returned (.bool b) := by rw [h]
theorem toL (s : ByteArray) : s.toList = s.data.toList := ByteArray.toList_eq s
theorem toL_mk (l : List UInt8) : (⟨l.toArray⟩ : ByteArray).toList = l := by rw [toL]

set_option maxRecDepth 100000 in
set_option maxHeartbeats 1600000 in
theorem part_any (s : ByteArray) (w : World) (hs : s.size ≤ 140737488355328) :
    Calls Tryd.prog 38 #[.string s] w fun e w' => e = .returned (.bool (partOk s.data.toList)) ∧ Below w.heap.size w w' := by
  have P := Lib.hid (printable_any s w hs)
  obtain ⟨h, hh⟩ : ∃ h, h = s.data.toList := ⟨_, rfl⟩
  obtain ⟨p, hp⟩ : ∃ p, p = s.data.toList.all okB := ⟨_, rfl⟩
  rw [← hp] at P
  rw [← hh] at hp ⊢
  by_cases h0 : h = []
  · have hr : partOk h = false := by rw [h0]; rfl
    have hd : s.toList = [] := by rw [toL, ← hh, h0]
    have HR := Lib.hid hr
    clear hp h0 hr hh
    go_enter Tryd.func38, Tryd.ntmps38
    go_wp2_with fail
    go_ret
    exact ⟨by rw [HR.out]; rfl, Below.refl _ _⟩
  · have hd : ¬ s.toList = [] := by rw [toL, ← hh]; exact h0
    have hne : h.isEmpty = false := by simpa using h0
    cases p
    · have HR : Hid (partOk h = false) := Lib.hid (by unfold partOk; rw [hne, ← hp]; rfl)
      clear hp h0 hh hne
      go_enter Tryd.func38, Tryd.ntmps38
      go_wp2_with fail
      refine P.out.mono ?_
      rintro e w' ⟨rfl, rfl⟩
      go_wp2_with fail
      go_ret
      exact ⟨by rw [HR.out]; rfl, Below.refl _ _⟩
    · have HR : Hid (partOk h = (s.toList == (⟨(lowS h).toArray⟩ : ByteArray).toList)) := Lib.hid (by unfold partOk; rw [hne, ← hp, toL_mk, toL, ← hh, low_same]; rfl)
      have C := Tryd.strings_ToLower_ascii s w hs (ok_ascii (by rw [← hh]; exact hp.symm))
      have e1 : Lib.toLowerA s.data.toList = lowS h := by rw [← hh]; rfl
      rw [e1] at C
      obtain ⟨low, hlow⟩ : ∃ low : ByteArray, low = ⟨(lowS h).toArray⟩ := ⟨_, rfl⟩
      rw [← hlow] at C HR
      obtain ⟨z, hz⟩ : ∃ z, (s.toList == low.toList) = z := ⟨_, rfl⟩
      rw [hz] at HR
      have HC := Lib.hid C
      clear hp h0 hh hne C hlow e1
      go_enter Tryd.func38, Tryd.ntmps38
      go_wp2_with fail
      refine P.out.mono ?_
      rintro e w' ⟨rfl, rfl⟩
      go_wp2_with fail
      refine HC.out.mono ?_
      rintro e w' ⟨rfl, hb⟩
      go_wp2_with fail
      go_ret
      refine ⟨?_, hb⟩
      have hem : s.toList.isEmpty = false := by simpa using hd
      rw [HR.out]
      show Ending.returned (.bool (!s.toList.isEmpty && z)) = _
      rw [hem]
      rfl

theorem wide_fun (q : Int) (w : World) : Calls Tryd.prog 40 #[.int .u8 q] w fun e w' => e = .returned (.bool (decide (31 < q))) ∧ w = w' := by
  go_enter Tryd.func40, Tryd.ntmps40
  go_wp2
  go_ret
  exact ⟨rfl, rfl⟩
theorem enter_wide : ∀ args w, (callFunc 40 args).run Tryd.prog w = .ok (.enter 40 args) w := enters_of Tryd.func40 (by kernel_rfl) rfl

set_option maxRecDepth 100000 in
set_option maxHeartbeats 1600000 in
theorem index_wide (B : Nat) (x : Value) (d : List UInt8) (w : World) (hx : Byt w B x d) (hB : B ≤ w.heap.size) :
    Calls Tryd.prog 54 #[x, .func (.func 40) #[] #[]] w fun e w' => (∃ k : Int, e = .returned (.int .i64 k) ∧ decide (0 ≤ k) = d.any wideB) ∧ w = w' := by
  have hlen := hx.len
  unfold maxLen at hlen
  have HX := Lib.hid hx
  obtain ⟨A, c, rfl⟩ := hx.form
  clear hx
  have HW := Lib.hid wide_fun
  go_enter Tryd.func54, Tryd.ntmps54
  go_wp2_with fail
  go_loopw [8] (fun j wr => ∃ i : Nat, i ≤ d.length ∧ j = .int .i64 i ∧ wr = w ∧ Hid (∀ c ∈ d.take i, wideB c = false)) (fun j _ => d.length - (intOf j).toNat)
  case atStart => exact ⟨0, Nat.zero_le _, rfl, rfl, Lib.hid (by simp)⟩
  case round =>
    obtain ⟨i, hi, rfl, rfl, hall⟩ := hrel
    by_cases hlt : i < d.length
    · obtain ⟨A', c', e0, _, _, _, h4⟩ := HX.out
      obtain ⟨e1, e2, e3⟩ := Value.slice.inj e0
      subst e1 e3
      clear e2 e0
      obtain ⟨b, o, rfl, hb, hbc⟩ := h4 (by rintro rfl; simp at hlt)
      obtain ⟨q, hq⟩ : ∃ q, q = d[i] := ⟨_, rfl⟩
      have hci := hbc i _ (List.getElem?_eq_getElem hlt)
      rw [← hq] at hci
      have hbi : wr.cell? ⟨b, o + i, none⟩ = some (.int .u8 (q.toNat : Int)) := hci
      have hqi : d[i]? = some q := by rw [hq]; exact List.getElem?_eq_getElem hlt
      have htk : d.take (i + 1) = d.take i ++ [q] := by rw [List.take_add_one, hqi]; rfl
      have HTK := Lib.hid htk
      have HQI := Lib.hid hqi
      have hen := enter_wide
      clear hq hci hbc h4 hqi htk
      go_wp2_with fail
      refine (HW.out _ _).mono ?_
      rintro e w' ⟨rfl, rfl⟩
      by_cases hw : 31 < (q.toNat : Int)
      · have hd : decide (31 < (q.toNat : Int)) = true := decide_eq_true hw
        have hr : d.any wideB = true := List.any_eq_true.2 ⟨q, List.mem_of_getElem? HQI.out, hd⟩
        have HR := Lib.hid hr
        clear hr hw
        go_wp2_with fail
        go_ret
        exact ⟨⟨_, rfl, by rw [HR.out]; simp⟩, rfl⟩
      · have hd : decide (31 < (q.toNat : Int)) = false := decide_eq_false hw
        have hnext : ∀ c ∈ d.take (i + 1), wideB c = false := by
          rw [HTK.out]
          intro c hc
          rcases List.mem_append.1 hc with h3 | h3
          · exact hall.out c h3
          · rw [List.mem_singleton.1 h3]; exact hd
        have HN := Lib.hid hnext
        clear hnext hw hall
        go_wp2_with fail
        exact ⟨⟨i + 1, by omega, by go_num, trivial, HN⟩, by simp [intOf]; omega⟩
    · have hr : d.any wideB = false := by
        rw [List.any_eq_false]
        intro c hc
        rw [hall.out c (by rw [List.take_of_length_le (by omega)]; exact hc)]
        simp
      have HR := Lib.hid hr
      clear hr hall
      go_wp2_with fail
      go_ret
      exact ⟨⟨_, rfl, by rw [HR.out]; rfl⟩, rfl⟩

theorem contains_wide (B : Nat) (x : Value) (d : List UInt8) (w : World) (hx : Byt w B x d) (hB : B ≤ w.heap.size) :
    Calls Tryd.prog 39 #[x, .func (.func 40) #[] #[]] w fun e w' => e = .returned (.bool (d.any wideB)) ∧ w = w' := by
  have H := Lib.hid (index_wide B x d w hx hB)
  obtain ⟨A, c, rfl⟩ := hx.form
  clear hx
  go_enter Tryd.func39, Tryd.ntmps39
  go_wp2_with fail
  refine H.out.mono ?_
  rintro e w' ⟨⟨k, rfl, hk⟩, rfl⟩
  have HK := Lib.hid hk
  clear hk
  go_wp2_with fail
  go_ret
  exact ⟨by rw [← HK.out]; rfl, rfl⟩
end Go.Proofs.YtgiljhdjknglpaaDoor
