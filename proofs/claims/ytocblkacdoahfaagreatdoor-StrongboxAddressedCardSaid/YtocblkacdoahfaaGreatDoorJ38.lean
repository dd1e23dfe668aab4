/-
  Texts joined: Double, B5M, B5K. Conditions: those of each.
-/
import Derived.Test.YtocblkacdoahfaaGreatDoorJ37
import Derived.Test.YtocblkacdoahfaaGreatDoorJ32
import Derived.Test.YtocblkacdoahfaaGreatDoorJ23
import Derived.Deep.RegionHeld
import Derived.OrdersHeld
import Derived.Test.YtocblkacdoahfaaGreatDoorJ26
/-
  hash.Double and Sum.Twice, walked. Conditions: the size stays below 2^59; the roots are laid.
-/
namespace Go.Proofs.YtocblkacdoahfaaGreatDoor
open Go.RowKit

theorem IRow.bytes {w : World} {g : Nat} {t : TypeId} {bs : List UInt8} (h : IRow w g t .u8 (nums bs)) (hl : bs.length ≤ maxLen) : Byt w (g + 1) (.slice (some ⟨g, 0, none⟩) bs.length bs.length) bs :=
  ⟨_, _, rfl, Nat.le_refl _, hl, (by intro h; cases h), fun _ => ⟨g, 0, rfl, Nat.lt_succ_self _, fun j u hu => by
    rw [Nat.zero_add]
    exact h.cell (by unfold nums; rw [List.getElem?_map, hu]; rfl)⟩⟩

set_option maxRecDepth 100000 in
set_option maxHeartbeats 3200000 in
theorem double_any (B : Nat) (v : Value) (b : List UInt8) (W0 : World) (hb : Byt W0 B v b) (hB : B ≤ W0.heap.size) (hlen : b.length < 576460752303423488) (hroots : Roots W0) :
    Calls Tryz.prog 79 #[v] W0 fun e w' => e = .returned (digV (sha256 (sha256 b))) ∧ Below W0.heap.size W0 w' := by
  obtain ⟨A, c, rfl⟩ := hb.form
  have HB := Lib.hid hb
  clear hb
  have rA := IRow.new W0 31 .u8 (List.replicate 32 0)
  have bA : Below W0.heap.size W0 (W0.alloc (.cells ((List.replicate 32 (0 : Int)).map (Value.int .u8)).toArray 31)) := (Below.refl _ W0).alloc (Nat.le_refl _) _
  have HR := Lib.hid hroots
  clear hroots
  go_enter Tryz.func79, Tryz.ntmps79
  go_upto_region 1 with fail
  change Code.wp _ _ _ _ (W0.alloc (.cells ((List.replicate 32 (0 : Int)).map (Value.int .u8)).toArray 31))
  obtain ⟨wA, hwA⟩ : ∃ x, x = W0.alloc (.cells ((List.replicate 32 (0 : Int)).map (Value.int .u8)).toArray 31) := ⟨_, rfl⟩
  rw [← hwA] at rA bA ⊢
  obtain ⟨B0, hB0⟩ : ∃ B0, B0 = W0.heap.size := ⟨_, rfl⟩
  rw [← hB0] at rA bA ⊢
  have C1 := Lib.hid (sum256_any B _ b wA (HB.out.below (bA.mono (by omega))) (by have := bA.size; omega) hlen (HR.out.below (by rw [← hB0]; exact bA)))
  have RA := Lib.hid rA
  have BA := Lib.hid bA
  have HB0 := Lib.hid hB0
  have RO := Lib.hid (HR.out.below (show Below W0.heap.size W0 wA by rw [← hB0]; exact bA))
  clear hwA rA bA hB0
  go_wp2_with fail
  refine C1.out.mono ?_
  rintro e w2 ⟨rfl, hb2⟩
  have hsz : (nums (sha256 b)).length = 32 := by rw [nums_length, sha256_length]
  have HI := Lib.hid (show (Tryz.prog.info? 31).map (·.size) = some (nums (sha256 b)).length by rw [hsz]; exact info_h)
  have HL := Lib.hid (show (List.replicate 32 (0 : Int)).length = (nums (sha256 b)).length by rw [hsz]; rfl)
  have rA2 := RA.out.below hb2 RA.out.lt
  have bA2 := BA.out.trans (hb2.mono (by have := BA.out.size; have := HB0.out; omega))
  have rO := RO.out.below hb2
  have rC := IRow.new w2 31 .u8 (List.replicate 32 0)
  have rC2 := setRow_irow (ys := nums (sha256 b)) rC
  have bC : Below w2.heap.size w2 ((w2.alloc (.cells ((List.replicate 32 (0 : Int)).map (Value.int .u8)).toArray 31)).setRow w2.heap.size ((nums (sha256 b)).map (Value.int .u8)).toArray) := below_setRow ((Below.refl _ w2).alloc (Nat.le_refl _) _) (Nat.le_refl _) _
  have RA2 := Lib.hid rA2
  have BA2 := Lib.hid bA2
  have RO2 := Lib.hid rO
  have RC := Lib.hid rC
  have RC2 := Lib.hid rC2
  have BC := Lib.hid bC
  clear hb2 rA2 bA2 rO rC rC2 bC hsz
  unfold digV
  go_upto_region 2 with (refine wpList_store_irow rfl 31 (.tmp 3) (.tmp 5) rfl (g := w2.heap.size) (t := 31) (k := .u8) (xs := List.replicate 32 0) (ys := nums (sha256 b)) rfl rfl RC.out HI.out HL.out ?_)
  change Code.wp _ _ _ _ ((w2.alloc (.cells ((List.replicate 32 (0 : Int)).map (Value.int .u8)).toArray 31)).setRow w2.heap.size ((nums (sha256 b)).map (Value.int .u8)).toArray)
  obtain ⟨w3, hw3⟩ : ∃ x, x = (w2.alloc (.cells ((List.replicate 32 (0 : Int)).map (Value.int .u8)).toArray 31)).setRow w2.heap.size ((nums (sha256 b)).map (Value.int .u8)).toArray := ⟨_, rfl⟩
  rw [← hw3]
  have rC3 : IRow w3 w2.heap.size 31 .u8 (nums (sha256 b)) := by rw [hw3]; exact RC2.out
  have bC3 : Below w2.heap.size w2 w3 := by rw [hw3]; exact BC.out
  have rA3 := RA2.out.below bC3 RA2.out.lt
  have bA3 := BA2.out.trans (bC3.mono (by have := BA2.out.size; have := HB0.out; omega))
  have ro3 := RO2.out.below bC3
  have hby := rC3.bytes (by rw [sha256_length]; unfold maxLen; omega)
  rw [sha256_length] at hby
  have C2 := Lib.hid (sum256_any _ _ _ w3 hby (by have := rC3.lt; omega) (by rw [sha256_length]; omega) ro3)
  have RA3 := Lib.hid rA3
  have BA3 := Lib.hid bA3
  clear hw3 rC3 bC3 rA3 bA3 ro3 hby RA2 BA2 RO2 RC RC2 BC HI HL
  dsimp only [Act.put]
  go_wp2_with fail
  refine C2.out.mono ?_
  rintro e w4 ⟨rfl, hb4⟩
  have hsz : (nums (sha256 (sha256 b))).length = 32 := by rw [nums_length, sha256_length]
  have HI := Lib.hid (show (Tryz.prog.info? 31).map (·.size) = some (nums (sha256 (sha256 b))).length by rw [hsz]; exact info_h)
  have HL := Lib.hid (show (List.replicate 32 (0 : Int)).length = (nums (sha256 (sha256 b))).length by rw [hsz]; rfl)
  have ra4 := RA3.out.below hb4 RA3.out.lt
  have b4 := BA3.out.trans (hb4.mono (by have := BA3.out.size; have := HB0.out; omega))
  have HFIN := Lib.hid (setRow_irow (ys := nums (sha256 (sha256 b))) ra4)
  have HBF := Lib.hid (below_setRow b4 (Nat.le_refl _) ((nums (sha256 (sha256 b))).map (Value.int .u8)).toArray)
  have RA4 := Lib.hid ra4
  clear ra4 b4 hb4 hsz
  unfold digV
  go_wp2_with (refine wpList_store_irow rfl 31 (.tmp 2) (.tmp 7) rfl (g := B0) (t := 31) (k := .u8) (xs := List.replicate 32 0) (ys := nums (sha256 (sha256 b))) rfl rfl RA4.out HI.out HL.out ?_)
  refine bodyPost_ret (v := digV (sha256 (sha256 b))) ?_ rfl ⟨rfl, by rw [← HB0.out]; exact HBF.out⟩
  obtain ⟨fr, hrw⟩ : ∃ fr, ((w4.setRow B0 ((nums (sha256 (sha256 b))).map (Value.int .u8)).toArray)).heap[B0]? = some (.cells ((nums (sha256 (sha256 b))).map (Value.int .u8)).toArray 31 fr) := ⟨_, HFIN.out⟩
  exact results_cell_row Tryz.results79 _ _ B0 31 ((nums (sha256 (sha256 b))).map (Value.int .u8)).toArray fr _ rfl hrw Tryz.underlying31 rfl (by rw [List.size_toArray, List.length_map]; exact HI.out)

end Go.Proofs.YtocblkacdoahfaaGreatDoor

/-
  text.FromBase58, sum58, Check58. Conditions: sizes within the reach; the roots are laid.
-/
namespace Go.Proofs.YtocblkacdoahfaaGreatDoor.Tx
open Go.RowKit

set_option maxRecDepth 100000 in
set_option maxHeartbeats 1600000 in
theorem from58_any (s : ByteArray) (w : World) : Calls Tryz.prog 45 #[.string s] w (RDec w s.data.toList) := by
  obtain ⟨cs, hcs⟩ : ∃ cs, cs = s.data.toList := ⟨_, rfl⟩
  have hlen : cs.length = s.size := by rw [hcs]; rfl
  rw [← hcs]
  have HL := Lib.hid hlen
  by_cases h250 : 250 < s.size
  · have hd : decide ((250 : Int) < (s.size : Int)) = true := decide_eq_true (by omega)
    have HD := Lib.hid (show Dec cs 2 [] from .inl ⟨by rw [HL.out]; exact h250, rfl, rfl⟩)
    clear hcs hlen
    go_enter Tryz.func45, Tryz.ntmps45
    go_wp2_with fail
    go_ret2
    exact ⟨2, _, [], HD.out, rfl, OwnB.nil _ _, Below.refl _ _⟩
  have hd : decide ((250 : Int) < (s.size : Int)) = false := decide_eq_false (by omega)
  have P := places_any s b58D w (by omega) (by decide)
  rw [← hcs] at P
  have HP := Lib.hid P
  clear P hcs hlen
  go_enter Tryz.func45, Tryz.ntmps45
  go_wp2_with fail
  refine HP.out.mono ?_
  rintro e w1 ⟨hb1, ⟨hall, rfl, hrow⟩ | ⟨hbad, rfl⟩⟩
  · have hsm : ∀ d ∈ placesB b58D cs, d.toNat < 58 := fun d hd => by
      unfold placesB at hd
      obtain ⟨c1, hc1, rfl⟩ := List.mem_map.1 hd
      have h2 := posB_range8 b58D c1
      have h3 := hall c1 hc1
      have h4 := b8_toNat (posB b58D c1)
      have h58' : (b58D.size : Int) = 58 := rfl
      omega
    have hby := hrow.byt (n := cs.length) (c := cs.length) (by rw [placesB_length]; exact Nat.le_refl _) (Nat.le_refl _) (by have := HL.out; unfold maxLen; omega)
    rw [List.take_of_length_le (by rw [placesB_length]; exact Nat.le_refl _)] at hby
    have C := Lib.hid (reb_any w1.heap.size _ (placesB b58D cs) 58 256 w1 hby (Nat.le_refl _) (by rw [placesB_length]; have := HL.out; omega) (by omega) (by omega) (by omega) (by omega) hsm)
    have HA := Lib.hid hall
    have HB := Lib.hid hb1
    clear hall hrow hby hsm hb1
    go_wp2_with fail
    refine C.out.mono ?_
    rintro e w2 ⟨v, out, rfl, hreb, hown, hb2⟩
    have HO := Lib.hid (own_base8 hown HB.out.size)
    have HB2 := Lib.hid (HB.out.trans (hb2.mono HB.out.size))
    have HD := Lib.hid (show Dec cs 0 out from .inr (.inr ⟨by rw [HL.out]; omega, HA.out, rfl, hreb⟩))
    obtain ⟨A, c, rfl⟩ := hown.form
    clear hreb hown hb2
    go_wp2_with fail
    go_ret2
    exact ⟨0, _, out, HD.out, rfl, HO.out, HB2.out⟩
  · have HD := Lib.hid (show Dec cs 3 [] from .inr (.inl ⟨by rw [HL.out]; omega, hbad, rfl, rfl⟩))
    have HB := Lib.hid hb1
    clear hbad hb1
    go_wp2_with fail
    go_ret2
    exact ⟨3, _, [], HD.out, rfl, OwnB.nil _ _, HB.out⟩

/-- The checksum. -/
def sum4 (b : List UInt8) : List UInt8 := (sha256 (sha256 b)).take 4
theorem sum4_length (b : List UInt8) : (sum4 b).length = 4 := by unfold sum4; rw [List.length_take, sha256_length]; rfl
theorem zero_hash8 (W : World) : (zeroValue 31).run Tryz.prog W = .ok (.agg ((List.replicate 32 (0 : Int)).map (Value.int .u8)).toArray) W := by kernel_rfl
theorem row_four {w : World} {g : Nat} {t : TypeId} {bs : List UInt8} (h : IRow w g t .u8 (nums bs)) (hl : bs.length = 32) : Byt w w.heap.size (.slice (some ⟨g, 0, none⟩) 4 32) (bs.take 4) := by
  have hb := (h.bytes (by rw [hl]; unfold maxLen; omega)).more (show g + 1 ≤ w.heap.size from h.lt)
  rw [hl] at hb
  obtain ⟨A', c', e, h1, h2, h3, h4⟩ := hb
  obtain ⟨e1, _, e3⟩ := Value.slice.inj e
  subst e1 e3
  have hl4 : (bs.take 4).length = 4 := by rw [List.length_take]; omega
  refine ⟨_, 32, by rw [hl4], by omega, h2, (by intro h; cases h), fun _ => ?_⟩
  obtain ⟨b, o, e', hb', hc⟩ := h4 (by rintro rfl; simp at hl)
  refine ⟨b, o, e', hb', fun j u hu => hc j u ?_⟩
  rw [List.getElem?_take] at hu
  split at hu
  · exact hu
  · cases hu
set_option maxRecDepth 100000 in
set_option maxHeartbeats 1600000 in
theorem sum58_any (B : Nat) (x : Value) (b : List UInt8) (w : World) (hx : Byt w B x b) (hB : B ≤ w.heap.size) (hl : b.length ≤ 100000) (hr : Roots w) :
    Calls Tryz.prog 44 #[x] w fun e w' => ∃ H, e = .returned (.slice (some ⟨H, 0, none⟩) 4 32) ∧ w.heap.size ≤ H ∧ Byt w' w'.heap.size (.slice (some ⟨H, 0, none⟩) 4 32) (sum4 b) ∧ Below w.heap.size w w' := by
  have C1 := Lib.hid (double_any B x b w hx hB (by omega) hr)
  obtain ⟨A, c, rfl⟩ := hx.form
  clear hx hr
  go_enter Tryz.func44, Tryz.ntmps44
  go_wp2_with fail
  refine C1.out.mono ?_
  rintro e w2 ⟨rfl, hb2⟩
  obtain ⟨D, hD⟩ : ∃ D, D = sha256 (sha256 b) := ⟨_, rfl⟩
  have hDl : D.length = 32 := by rw [hD]; exact sha256_length _
  rw [← hD]
  unfold digV
  have hsz : (nums D).length = 32 := by rw [nums_length, hDl]
  have HI := Lib.hid (show (Tryz.prog.info? 31).map (·.size) = some (nums D).length by rw [hsz]; exact info_h)
  have HL := Lib.hid (show (List.replicate 32 (0 : Int)).length = (nums D).length by rw [hsz]; rfl)
  have RC := Lib.hid (IRow.new w2 31 .u8 (List.replicate 32 0))
  have HB := Lib.hid hb2
  have HD := Lib.hid hD
  have HDL := Lib.hid hDl
  have hzh := zero_hash8
  clear hD hDl hsz hb2
  go_upto_region 2 with (refine wpList_store_irow rfl 31 (.tmp 3) (.tmp 5) rfl (g := w2.heap.size) (t := 31) (k := .u8) (xs := List.replicate 32 0) (ys := nums D) rfl rfl RC.out HI.out HL.out ?_)
  change Code.wp _ _ _ _ ((w2.alloc (.cells ((List.replicate 32 (0 : Int)).map (Value.int .u8)).toArray 31)).setRow w2.heap.size ((nums D).map (Value.int .u8)).toArray)
  obtain ⟨w3, hw3⟩ : ∃ x, x = (w2.alloc (.cells ((List.replicate 32 (0 : Int)).map (Value.int .u8)).toArray 31)).setRow w2.heap.size ((nums D).map (Value.int .u8)).toArray := ⟨_, rfl⟩
  rw [← hw3]
  have bC : Below w2.heap.size w2 w3 := by rw [hw3]; exact below_setRow ((Below.refl _ w2).alloc (Nat.le_refl _) _) (Nat.le_refl _) _
  have r3 : IRow w3 w2.heap.size 31 .u8 (nums D) := by rw [hw3]; exact setRow_irow RC.out
  have HF := Lib.hid (row_four r3 HDL.out)
  have HB3 := Lib.hid (HB.out.trans (bC.mono HB.out.size))
  clear hw3 bC r3 RC
  try dsimp only [Act.put]
  go_wp2_with fail
  go_ret
  exact ⟨_, rfl, HB.out.size, by unfold sum4; rw [← HD.out]; exact HF.out, HB3.out⟩

set_option maxRecDepth 100000 in
set_option maxHeartbeats 1600000 in
theorem check58_any (B : Nat) (x : Value) (b : List UInt8) (w : World) (hx : Byt w B x b) (hB : B ≤ w.heap.size) (hl : b.length ≤ 200) (hr : Roots w) :
    Calls Tryz.prog 14 #[x] w fun e w' => ∃ out, e = .returned (.string ⟨(letters b58D out).toArray⟩) ∧ RebOf 58 256 (b ++ sum4 b) out ∧ Below w.heap.size w w' := by
  have C1 := Lib.hid (sum58_any B x b w hx hB (by omega) hr)
  have HX := Lib.hid hx
  obtain ⟨A, c, rfl⟩ := hx.form
  obtain ⟨bs, hbs⟩ : ∃ bs, bs = b ++ sum4 b := ⟨_, rfl⟩
  rw [← hbs]
  have HBS := Lib.hid hbs
  clear hx hr hbs
  go_enter Tryz.func14, Tryz.ntmps14
  go_wp2_with fail
  refine C1.out.mono ?_
  rintro e w2 ⟨H, rfl, hH, hby, hb2⟩
  have hbag := BagR.made w2 23 [.slice A b.length c, .slice (some ⟨H, 0, none⟩) 4 32] [(.slice A b.length c, b), (.slice (some ⟨H, 0, none⟩) 4 32, sum4 b)] rfl (by unfold maxLen; simp) (by
    intro p hp
    simp only [List.mem_cons, List.not_mem_nil, or_false] at hp
    rcases hp with rfl | rfl
    · exact (HX.out.below (hb2.mono hB)).more (Nat.le_trans hB hb2.size)
    · exact hby)
  have hj : joined [((.slice A b.length c : Value), b), (.slice (some ⟨H, 0, none⟩) 4 32, sum4 b)] = b ++ sum4 b := by unfold joined; simp
  have C2 := concat_any (w2.heap.size + 1) _ _ (w2.alloc (.cells #[.slice A b.length c, .slice (some ⟨H, 0, none⟩) 4 32] 23)) hbag (by simp) (by rw [← joined_length, hj, List.length_append, sum4_length]; omega)
  rw [hj] at C2
  have HC2 := Lib.hid C2
  have HB2 := Lib.hid (hb2.alloc hb2.size (.cells #[.slice A b.length c, .slice (some ⟨H, 0, none⟩) 4 32] 23))
  have hlj : (b ++ sum4 b).length ≤ 204 := by rw [List.length_append, sum4_length]; omega
  rw [← HBS.out] at HC2 hlj
  clear hbag hj C2 hby hb2
  go_wp2_with fail
  refine HC2.out.mono ?_
  intro e w3 hfr
  obtain ⟨v3, rfl, hown3, hb3⟩ := fresh_v hfr
  have HB3 := Lib.hid (HB2.out.trans (hb3.mono (by have := HB2.out.size; simpa using this)))
  have C3 := Lib.hid (base58_any w3.heap.size v3 bs w3 (Byt.of_own hown3) (Nat.le_refl _) (by omega))
  obtain ⟨A3, c3, rfl⟩ := hown3.form
  clear hfr hown3 hb3
  go_wp2_with fail
  refine C3.out.mono ?_
  rintro e w4 ⟨out, rfl, hreb, hb4⟩
  have HB4 := Lib.hid (HB3.out.trans (hb4.mono HB3.out.size))
  have HR := Lib.hid hreb
  clear hreb hb4
  go_wp2_with fail
  go_ret
  exact ⟨out, rfl, HR.out, HB4.out⟩
end Go.Proofs.YtocblkacdoahfaaGreatDoor.Tx

/-
  FromCheck58, the program's. Conditions: sizes within the reach; the roots are laid.
-/
namespace Go.Proofs.YtocblkacdoahfaaGreatDoor.Tx
open Go.RowKit

/-- What the checksum says. -/
def chkF (k : Int) (out : List UInt8) : Int × List UInt8 :=
  if k ≠ 0 then (k, []) else if out.length < 4 then (4, []) else if sum4 (out.take (out.length - 4)) = out.drop (out.length - 4) then (0, out.take (out.length - 4)) else (5, [])
def RChk (w : World) (cs : List UInt8) (e : Ending) (w' : World) : Prop := ∃ k out v, Dec cs k out ∧ e = .returned (.tuple #[v, .int .i64 (chkF k out).1]) ∧ Byt w' w'.heap.size v (chkF k out).2 ∧ Below w.heap.size w w'
theorem dec_small {cs out : List UInt8} {k : Int} (h : Dec cs k out) : out.length ≤ 2300 ∧ 0 ≤ k ∧ k ≤ 3 := by
  rcases h with ⟨_, rfl, rfl⟩ | ⟨_, _, rfl, rfl⟩ | ⟨h1, h2, rfl, h3⟩
  · exact ⟨by simp, by omega, by omega⟩
  · exact ⟨by simp, by omega, by omega⟩
  · have := reb_length h3 (by omega) (by omega) (by omega) (fun d hd => by
      unfold placesB at hd
      obtain ⟨c1, hc1, rfl⟩ := List.mem_map.1 hd
      have a2 := posB_range8 b58D c1
      have a3 := h2 c1 hc1
      have a4 := b8_toNat (posB b58D c1)
      have h58' : (b58D.size : Int) = 58 := rfl
      omega)
    rw [placesB_length] at this
    exact ⟨by omega, by omega, by omega⟩
set_option maxRecDepth 100000 in
set_option maxHeartbeats 6400000 in
theorem fromcheck58_any (s : ByteArray) (w : World) (hr : Roots w) : Calls Tryz.prog 15 #[.string s] w (RChk w s.data.toList) := by
  obtain ⟨cs, hcs⟩ : ∃ cs, cs = s.data.toList := ⟨_, rfl⟩
  have C := from58_any s w
  rw [← hcs] at C ⊢
  have C := Lib.hid C
  have HR := Lib.hid hr
  clear hr hcs
  go_enter Tryz.func15, Tryz.ntmps15
  go_wp2_with fail
  refine C.out.mono ?_
  rintro e w1 ⟨k, v, out, hd, rfl, hown, hb⟩
  obtain ⟨ho, hk0, hk3⟩ := dec_small hd
  have hby := Byt.of_own hown
  obtain ⟨A, c, rfl⟩ := hby.form
  obtain ⟨n, hn⟩ : ∃ n, n = out.length := ⟨_, rfl⟩
  have HD := Lib.hid hd
  have HB := Lib.hid hb
  have hcap := hby.cap
  by_cases hk : k = 0
  · subst hk
    by_cases h4 : n < 4
    · have hc : chkF 0 out = (4, []) := by unfold chkF; rw [if_neg (by simp), if_pos (by omega)]
      have HC := Lib.hid hc
      have d4 : decide ((n : Int) < 4) = true := decide_eq_true (by omega)
      rw [← hn]
      clear hd hb hown hby hn hc hcap
      go_wp2_with fail
      go_ret2
      exact ⟨0, out, .slice none 0 0, HD.out, by rw [HC.out]; rfl, by rw [HC.out]; exact Byt.nil _ _, HB.out⟩
    · have d4 : decide ((n : Int) < 4) = false := decide_eq_false (by omega)
      obtain ⟨m, hm⟩ : ∃ m, n = m + 4 := ⟨n - 4, by omega⟩
      have hw : IntKind.i64.wrap ((n : Int) - 4) = (m : Int) := by rw [IntWalk.i64_in _ (by omega)]; omega
      obtain ⟨L, hL⟩ : ∃ L, L = out.take m := ⟨_, rfl⟩
      obtain ⟨T, hT⟩ : ∃ T, T = out.drop m := ⟨_, rfl⟩
      have hLl : L.length = m := by rw [hL, List.length_take]; omega
      have hTl : T.length = 4 := by rw [hT, List.length_drop]; omega
      have hc : chkF 0 out = if (T == sum4 L) = true then (0, L) else (5, []) := by
        unfold chkF
        rw [if_neg (by simp), if_neg (by omega), ← hn, hm, Nat.add_sub_cancel, ← hL, ← hT]
        by_cases h : sum4 L = T
        · rw [if_pos h, if_pos (by rw [h]; simp)]
        · rw [if_neg h, if_neg (by simp; exact fun e => h e.symm)]
      obtain ⟨q, hq⟩ : ∃ q, q = (T == sum4 L) := ⟨_, rfl⟩
      rw [← hq] at hc
      have HQ := Lib.hid hq
      have hsz := hb.size
      have r1 : Roots w1 := HR.out.below hb
      have sa := run_tail A n c m (by omega)
      have sb := run_to A n c m (by omega) (by omega)
      have s3 := run_to3 A n c m (by omega)
      obtain ⟨A2, hA2⟩ : ∃ A2, A2 = if c = m then A else A.map (fun x => x.add m) := ⟨_, rfl⟩
      have hnm : n - m = 4 := by omega
      rw [← hA2, hnm] at sa
      have tT : Byt w1 w1.heap.size (.slice A2 4 (c - m)) T := by
        have h := hby.tail (k := m) (by omega)
        rw [← hA2, ← hn, hnm, ← hT] at h
        exact h
      have tL : Byt w1 w1.heap.size (.slice A m c) L := by
        have h := hby.take_ (k := m) (by omega)
        rw [← hL] at h
        exact h
      have tM : Byt w1 w1.heap.size (.slice A m m) L := by
        have h := byt_cap hby (k := m) (by omega)
        rw [← hL] at h
        exact h
      have TT := Lib.hid tT
      have TM := Lib.hid tM
      have CS := Lib.hid (fun k1 => sum58_any w1.heap.size (.slice A m c) L (w1.drewN k1) (byt_drewN tL k1) (Nat.le_refl _) (by omega) (r1.below (show Below w1.heap.size w1 (w1.drewN k1) from ⟨rfl, rfl, rfl, Nat.le_refl _, fun _ _ => rfl⟩)))
      have HC := Lib.hid hc
      rw [← hn]
      clear hd hb hown hby hn hc hcap hL hT hLl hTl r1 tT tL tM hA2 hm hq
      go_wp2_with fail
      refine wp_region_held_drew (S := AnyW) (by kernel_rfl) ?_ (fun hHeld => ?_)
      · exact anyW _
      refine wpAnyH_take (i := 0) (oi := { dst := some 21, op := Go.Op.move (Go.Operand.tmp 4), type := 23, pos := "base58.go:45", after := #[], guard := none }) (v := ?av0) rfl (by kernel_rfl) (by kernel_rfl) (by kernel_rfl) (fun _ _ _ h => h) (Or.inl ⟨by rfl, ?ay0⟩) (by assumption) ?ar0
      case ay0 => (intro w hSw; (try dsimp only at hSw); go_simp; try (with_reducible rfl))
      case ar0 =>
      try simp only [Act.put, List.setIfInBounds_toArray, List.set_cons_zero, List.set_cons_succ]
      refine wpAnyH_take (i := 1) (oi := { dst := some 22, op := Go.Op.move (Go.Operand.tmp 6), type := 3, pos := "base58.go:45", after := #[], guard := none }) (v := ?av1) rfl (by kernel_rfl) (by kernel_rfl) (by kernel_rfl) (fun _ _ _ h => h) (Or.inl ⟨by rfl, ?ay1⟩) (by assumption) ?ar1
      case ay1 => (intro w hSw; (try dsimp only at hSw); go_simp; try (with_reducible rfl))
      case ar1 =>
      try simp only [Act.put, List.setIfInBounds_toArray, List.set_cons_zero, List.set_cons_succ]
      refine wpAnyH_take (i := 2) (oi := { dst := some 23, op := Go.Op.slice 23 (Go.Operand.tmp 21) (some (Go.Operand.tmp 22)) none none, type := 23, pos := "base58.go:45", after := #[{ on := 0, ground := Go.Ground.data }, { on := 1, ground := Go.Ground.data }], guard := none }) (v := (.slice A2 4 (c - m))) rfl (by kernel_rfl) (by kernel_rfl) (by kernel_rfl) (fun _ _ _ h => h) (Or.inl ⟨by rfl, ?ay2⟩) (by assumption) ?ar2
      case ay2 => (intro w hSw; (try dsimp only at hSw); go_simp; try (with_reducible rfl))
      case ar2 =>
      try simp only [Act.put, List.setIfInBounds_toArray, List.set_cons_zero, List.set_cons_succ]
      refine wpAnyH_take (i := 3) (oi := { dst := some 24, op := Go.Op.move (Go.Operand.tmp 4), type := 23, pos := "base58.go:45", after := #[], guard := none }) (v := ?av3) rfl (by kernel_rfl) (by kernel_rfl) (by kernel_rfl) (fun _ _ _ h => h) (Or.inl ⟨by rfl, ?ay3⟩) (by assumption) ?ar3
      case ay3 => (intro w hSw; (try dsimp only at hSw); go_simp; try (with_reducible rfl))
      case ar3 =>
      try simp only [Act.put, List.setIfInBounds_toArray, List.set_cons_zero, List.set_cons_succ]
      refine wpAnyH_take (i := 4) (oi := { dst := some 25, op := Go.Op.move (Go.Operand.tmp 6), type := 3, pos := "base58.go:45", after := #[], guard := none }) (v := ?av4) rfl (by kernel_rfl) (by kernel_rfl) (by kernel_rfl) (fun _ _ _ h => h) (Or.inl ⟨by rfl, ?ay4⟩) (by assumption) ?ar4
      case ay4 => (intro w hSw; (try dsimp only at hSw); go_simp; try (with_reducible rfl))
      case ar4 =>
      try simp only [Act.put, List.setIfInBounds_toArray, List.set_cons_zero, List.set_cons_succ]
      refine wpAnyH_take (i := 5) (oi := { dst := some 26, op := Go.Op.slice 23 (Go.Operand.tmp 24) none (some (Go.Operand.tmp 25)) none, type := 23, pos := "base58.go:45", after := #[{ on := 3, ground := Go.Ground.data }, { on := 4, ground := Go.Ground.data }], guard := none }) (v := (.slice A m c)) rfl (by kernel_rfl) (by kernel_rfl) (by kernel_rfl) (fun _ _ _ h => h) (Or.inl ⟨by rfl, ?ay5⟩) (by assumption) ?ar5
      case ay5 => (intro w hSw; (try dsimp only at hSw); go_simp; try (with_reducible rfl))
      case ar5 =>
      try simp only [Act.put, List.setIfInBounds_toArray, List.set_cons_zero, List.set_cons_succ]
      refine wpAnyH_ready (rs := [6]) (by kernel_rfl) (by simp) ?_
      refine AllReadyH.cons (o := { dst := some 27, op := Go.Op.call { callee := Go.Callee.value (Go.Operand.func 44), args := #[Go.Operand.tmp 26], argTypes := #[23] }, type := 23, pos := "base58.go:45", after := #[{ on := 5, ground := Go.Ground.data }], guard := none }) rfl (fun K hK => ?_) (AllReadyH.nil)
      go_simp
      refine (CS.out _).mono ?_
      rintro e w2 ⟨H, rfl, hH, hby2, hb2⟩
      have HB2 := Lib.hid hb2
      have HY2 := Lib.hid hby2
      clear hb2 hby2 hH
      go_simp
      refine hK.out _ _ ?_ (fun hHeld => ?_)
      · exact anyW _
      clear hK K
      try simp only [Act.put, List.setIfInBounds_toArray, List.set_cons_zero, List.set_cons_succ]
      refine wpAnyH_ready (rs := [7]) (by kernel_rfl) (by simp) ?_
      refine AllReadyH.cons (o := { dst := some 28, op := Go.Op.call { callee := Go.Callee.value (Go.Operand.func 46), args := #[Go.Operand.tmp 23, Go.Operand.tmp 27], argTypes := #[23, 23] }, type := 4, pos := "base58.go:45", after := #[{ on := 2, ground := Go.Ground.data }, { on := 6, ground := Go.Ground.data }, { on := 6, ground := Go.Ground.chain }], guard := none }) rfl (fun K hK => ?_) (AllReadyH.nil)
      go_simp
      refine (bequal_any w1.heap.size _ (.slice A2 4 (c - m)) (.slice (some ⟨H, 0, none⟩) 4 32) T (sum4 L) _ ((byt_drewN TT.out _).below HB2.out) HY2.out).mono ?_
      rintro e w3 ⟨rfl, rfl⟩
      rw [← HQ.out]
      go_simp
      refine hK.out _ _ ?_ (fun hHeld => ?_)
      · exact anyW _
      clear hK K
      try simp only [Act.put, List.setIfInBounds_toArray, List.set_cons_zero, List.set_cons_succ]
      refine wpAnyH_take (i := 8) (oi := { dst := some 29, op := Go.Op.unOp Go.UnOp.not 4 (Go.Operand.tmp 28), type := 4, pos := "base58.go:45", after := #[{ on := 7, ground := Go.Ground.data }], guard := none }) (v := ?a_6_7v8) rfl (by kernel_rfl) (by kernel_rfl) (by kernel_rfl) (fun _ _ _ h => h) (Or.inl ⟨by rfl, ?a_6_7y8⟩) (by assumption) ?a_6_7r8
      case a_6_7y8 => (intro w hSw; (try dsimp only at hSw); go_simp; try (with_reducible rfl))
      case a_6_7r8 =>
      try simp only [Act.put, List.setIfInBounds_toArray, List.set_cons_zero, List.set_cons_succ]
      refine wpAnyH_done (by kernel_rfl) ?_ _
      have hbb := HB.out.trans ((show Below w1.heap.size w1 (w1.drewN 1) from ⟨rfl, rfl, rfl, Nat.le_refl _, fun _ _ => rfl⟩).trans HB2.out |>.mono hsz)
      cases q
      · rw [if_neg (by simp)] at HC
        go_wp2_with fail
        go_ret2
        exact ⟨0, out, .slice none 0 0, HD.out, by rw [HC.out]; rfl, by rw [HC.out]; exact Byt.nil _ _, hbb⟩
      · rw [if_pos rfl] at HC
        go_wp2_with fail
        go_ret2
        exact ⟨0, out, .slice A m m, HD.out, by rw [HC.out]; rfl, by rw [HC.out]; exact ((byt_drewN TM.out _).below HB2.out).more (by have := HB2.out.size; simpa using this), hbb⟩
  · have hc : chkF k out = (k, []) := by unfold chkF; rw [if_pos hk]
    have HC := Lib.hid hc
    have d4 : (k != (0 : Int)) = true := by simp only [bne_iff_ne, ne_eq]; exact hk
    rw [← hn]
    clear hd hb hown hby hn hc hcap hk
    go_wp2_with fail
    go_ret2
    exact ⟨k, out, .slice none 0 0, HD.out, by rw [HC.out]; rfl, by rw [HC.out]; exact Byt.nil _ _, HB.out⟩
end Go.Proofs.YtocblkacdoahfaaGreatDoor.Tx
