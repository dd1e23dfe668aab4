/-
  block.EncodeHeader. Conditions: none.
-/
import Derived.Test.YtgkocmljnoambaaDoorNWire
namespace Go.Proofs.YtgkocmljnoambaaDoor
open Go.RowKit

/-- A head's cells, and its bytes. -/
def hdCells (ver : Int) (prev merk : List UInt8) (tm bt nc : Int) : List Value := .int .i32 ver :: (prev.map bv ++ (merk.map bv ++ [.int .u32 tm, .int .u32 bt, .int .u32 nc]))
def headB (ver : Int) (prev merk : List UInt8) (tm bt nc : Int) : List UInt8 := [] ++ low (ver % 4294967296) 4 ++ prev ++ merk ++ low tm 4 ++ low bt 4 ++ low nc 4
theorem headB_length {ver : Int} {prev merk : List UInt8} {tm bt nc : Int} (hp : prev.length = 32) (hm : merk.length = 32) : (headB ver prev merk tm bt nc).length = 80 := by
  simp [headB, low_length, hp, hm]
theorem hd_prev {ver : Int} {prev merk : List UInt8} {tm bt nc : Int} {j : Nat} {u : UInt8} (h : prev[j]? = some u) : (hdCells ver prev merk tm bt nc)[1 + j]? = some (bv u) := by
  unfold hdCells
  rw [Nat.add_comm, List.getElem?_cons_succ, List.getElem?_append_left (by rw [List.length_map]; exact (List.getElem?_eq_some_iff.1 h).1), List.getElem?_map, h]
  rfl
theorem hd_merk {ver : Int} {prev merk : List UInt8} {tm bt nc : Int} (hp : prev.length = 32) {j : Nat} {u : UInt8} (h : merk[j]? = some u) : (hdCells ver prev merk tm bt nc)[33 + j]? = some (bv u) := by
  unfold hdCells
  rw [show 33 + j = 32 + j + 1 by omega, List.getElem?_cons_succ, List.getElem?_append_right (by rw [List.length_map]; omega), List.length_map, hp, show 32 + j - 32 = j by omega, List.getElem?_append_left (by rw [List.length_map]; exact (List.getElem?_eq_some_iff.1 h).1), List.getElem?_map, h]
  rfl
theorem hd_last {ver : Int} {prev merk : List UInt8} {tm bt nc : Int} (hp : prev.length = 32) (hm : merk.length = 32) (k : Nat) : (hdCells ver prev merk tm bt nc)[65 + k]? = [Value.int .u32 tm, .int .u32 bt, .int .u32 nc][k]? := by
  unfold hdCells
  rw [show 65 + k = 64 + k + 1 by omega, List.getElem?_cons_succ, List.getElem?_append_right (by rw [List.length_map]; omega), List.length_map, hp, List.getElem?_append_right (by rw [List.length_map]; omega), List.length_map, hm, show 64 + k - 32 - 32 = k by omega]

theorem own_base {w : World} {b b' : Nat} {e : TypeId} {size n : Nat} {v : Value} {xs : List Value} (h : w.ownsRow b e size v n xs) (hb : b' ≤ b) : w.ownsRow b' e size v n xs := by
  refine ⟨h.1, ?_⟩
  rcases h.2 with hn | ⟨g, cap, cur, rfl, hbg, rest⟩
  · exact .inl hn
  · exact .inr ⟨g, cap, cur, rfl, Nat.le_trans hb hbg, rest⟩
set_option maxRecDepth 100000 in
set_option maxHeartbeats 6400000 in
theorem header_any (ver : Int) (prev merk : List UInt8) (tm bt nc : Int) (w : World) (hp : prev.length = 32) (hm : merk.length = 32) (ht0 : 0 ≤ tm) (ht1 : tm < 4294967296) (hb0 : 0 ≤ bt) (hb1 : bt < 4294967296) (hn0 : 0 ≤ nc) (hn1 : nc < 4294967296) :
    Calls Tryd.prog 21 #[.agg (hdCells ver prev merk tm bt nc).toArray] w (Fresh w (headB ver prev merk tm bt nc)) := by
  obtain ⟨L, hL⟩ : ∃ L, L = headB ver prev merk tm bt nc := ⟨_, rfl⟩
  rw [← hL]
  have HL := Lib.hid hL
  clear hL
  obtain ⟨W, hW⟩ : ∃ W, (w.alloc (.cells (hdCells ver prev merk tm bt nc).toArray 48)).alloc (.cells #[.slice none 0 0] 65) = W := ⟨_, rfl⟩
  have hs : W.heap.size = w.heap.size + 2 := by rw [← hW]; simp
  have hB : Below w.heap.size w W := by rw [← hW]; exact ((Below.refl _ w).alloc (Nat.le_refl _) _).alloc (by simp) _
  have hrow : W.heap[w.heap.size]? = some (.cells (hdCells ver prev merk tm bt nc).toArray 48 (0, 0)) := by
    rw [← hW]
    exact (Below.heap_alloc _ _ _ (by simp)).trans (heap_alloc_new w _)
  have hwr : Wr W (w.heap.size + 1) W.heap.size (.slice none 0 0) [] := by
    refine ⟨?_, World.ownsRow_nil _ _ _ _⟩
    rw [← hW]
    have h := heap_alloc_new (w.alloc (.cells (hdCells ver prev merk tm bt nc).toArray 48)) (.cells #[.slice none 0 0] 65)
    rw [World.size_alloc] at h
    exact h
  have hcell : ∀ w' : World, Turns (fun k => k = w.heap.size + 1 ∨ (Value.slice none 0 0).ownBlock = some k) W w' → ∀ j v, (hdCells ver prev merk tm bt nc)[j]? = some v → w'.cell? ⟨w.heap.size, j, none⟩ = some v := fun w' ht j v hv => by
    have h1 : w'.heap[w.heap.size]? = _ := (ht.block w.heap.size (by omega) (by intro h; rcases h with h | h; omega; cases h)).trans hrow
    rw [cell_of_row w' w.heap.size j _ _ _ h1]
    simpa using hv
  have st0 : WrStep W (w.heap.size + 1) W.heap.size (.slice none 0 0) [] W := ⟨_, hwr, Turns.refl _ _, .inl rfl⟩
  have HC := Lib.hid hcell
  have HW := Lib.hid hW
  have HS := Lib.hid hs
  have HB := Lib.hid hB
  have ST0 := Lib.hid st0
  clear hrow hwr hcell hW hs hB st0
  go_enter Tryd.func21, Tryd.ntmps21
  obtain ⟨v0, hw0, ht0, hv0⟩ := ST0.out
  have cv : W.cell? ⟨w.heap.size, 0, none⟩ = some (.int .i32 ver) := HC.out _ ht0 0 _ rfl
  have wv : IntKind.u32.wrap ver = ver % 4294967296 := IntKind.wrap_u32' ver
  have CC0 := Lib.hid (u32_any (w.heap.size + 1) W.heap.size v0 (ver % 4294967296) ([]) W (by omega) (by omega) hw0 (by simp) (Nat.le_refl _))
  have HT0 := Lib.hid ht0
  have HV0 := Lib.hid hv0
  clear hw0 ht0 hv0
  go_upto_region 2 with fail
  rw [HW.out]
  go_wp2_with fail
  refine CC0.out.mono ?_
  rintro e w1 ⟨rfl, hst⟩
  have ST1 := Lib.hid (WrStep.next HT0.out HV0.out hst)
  clear hst cv wv
  obtain ⟨v1, hw1, ht1, hv1⟩ := ST1.out
  have by1 : Byt w1 w1.heap.size (.slice (some ⟨w.heap.size, 1, none⟩) 32 32) prev :=
    ⟨_, 32, by rw [hp], by omega, by unfold maxLen; omega, (by intro h; cases h), fun _ => ⟨_, _, rfl, by have := ht1.size; have := HS.out; omega, fun j u hu => HC.out _ ht1 (1 + j) _ (hd_prev hu)⟩⟩
  have CC1 := Lib.hid (raw_any (w.heap.size + 1) W.heap.size w1.heap.size v1 _ ([] ++ low (ver % 4294967296) 4) prev w1 hw1 by1 (by simp [low_length, hp]) ht1.size)
  clear by1
  have HT1 := Lib.hid ht1
  have HV1 := Lib.hid hv1
  clear hw1 ht1 hv1
  go_wp2_with fail
  refine CC1.out.mono ?_
  rintro e w2 ⟨rfl, hst⟩
  have ST2 := Lib.hid (WrStep.next HT1.out HV1.out hst)
  clear hst
  obtain ⟨v2, hw2, ht2, hv2⟩ := ST2.out
  have by2 : Byt w2 w2.heap.size (.slice (some ⟨w.heap.size, 33, none⟩) 32 32) merk :=
    ⟨_, 32, by rw [hm], by omega, by unfold maxLen; omega, (by intro h; cases h), fun _ => ⟨_, _, rfl, by have := ht2.size; have := HS.out; omega, fun j u hu => HC.out _ ht2 (33 + j) _ (hd_merk hp hu)⟩⟩
  have CC2 := Lib.hid (raw_any (w.heap.size + 1) W.heap.size w2.heap.size v2 _ ([] ++ low (ver % 4294967296) 4 ++ prev) merk w2 hw2 by2 (by simp [low_length, hp, hm]) ht2.size)
  clear by2
  have HT2 := Lib.hid ht2
  have HV2 := Lib.hid hv2
  clear hw2 ht2 hv2
  go_wp2_with fail
  refine CC2.out.mono ?_
  rintro e w3 ⟨rfl, hst⟩
  have ST3 := Lib.hid (WrStep.next HT2.out HV2.out hst)
  clear hst
  obtain ⟨v3, hw3, ht3, hv3⟩ := ST3.out
  have cv3 : w3.cell? ⟨w.heap.size, 65, none⟩ = some (.int .u32 tm) := HC.out _ ht3 65 _ ((hd_last hp hm 0).trans rfl)
  have CC3 := Lib.hid (u32_any (w.heap.size + 1) W.heap.size v3 tm ([] ++ low (ver % 4294967296) 4 ++ prev ++ merk) w3 (by omega) (by omega) hw3 (by simp [low_length, hp, hm]) ht3.size)
  have HT3 := Lib.hid ht3
  have HV3 := Lib.hid hv3
  clear hw3 ht3 hv3
  go_wp2_with fail
  refine CC3.out.mono ?_
  rintro e w4 ⟨rfl, hst⟩
  have ST4 := Lib.hid (WrStep.next HT3.out HV3.out hst)
  clear hst cv3
  obtain ⟨v4, hw4, ht4, hv4⟩ := ST4.out
  have cv4 : w4.cell? ⟨w.heap.size, 66, none⟩ = some (.int .u32 bt) := HC.out _ ht4 66 _ ((hd_last hp hm 1).trans rfl)
  have CC4 := Lib.hid (u32_any (w.heap.size + 1) W.heap.size v4 bt ([] ++ low (ver % 4294967296) 4 ++ prev ++ merk ++ low tm 4) w4 (by omega) (by omega) hw4 (by simp [low_length, hp, hm]) ht4.size)
  have HT4 := Lib.hid ht4
  have HV4 := Lib.hid hv4
  clear hw4 ht4 hv4
  go_wp2_with fail
  refine CC4.out.mono ?_
  rintro e w5 ⟨rfl, hst⟩
  have ST5 := Lib.hid (WrStep.next HT4.out HV4.out hst)
  clear hst cv4
  obtain ⟨v5, hw5, ht5, hv5⟩ := ST5.out
  have cv5 : w5.cell? ⟨w.heap.size, 67, none⟩ = some (.int .u32 nc) := HC.out _ ht5 67 _ ((hd_last hp hm 2).trans rfl)
  have CC5 := Lib.hid (u32_any (w.heap.size + 1) W.heap.size v5 nc ([] ++ low (ver % 4294967296) 4 ++ prev ++ merk ++ low tm 4 ++ low bt 4) w5 (by omega) (by omega) hw5 (by simp [low_length, hp, hm]) ht5.size)
  have HT5 := Lib.hid ht5
  have HV5 := Lib.hid hv5
  clear hw5 ht5 hv5
  go_wp2_with fail
  refine CC5.out.mono ?_
  rintro e w6 ⟨rfl, hst⟩
  have ST6 := Lib.hid (WrStep.next HT5.out HV5.out hst)
  clear hst cv5
  obtain ⟨v6, hw6, ht6, hv6⟩ := ST6.out
  have CC6 := Lib.hid (out_any (w.heap.size + 1) W.heap.size v6 _ w6 hw6 (by simp [low_length, hp, hm]))
  rw [show [] ++ low (ver % 4294967296) 4 ++ prev ++ merk ++ low tm 4 ++ low bt 4 ++ low nc 4 = L from HL.out.symm] at CC6
  have HB6 := Lib.hid (HB.out.trans (ht6.below_of (B := w.heap.size) (by have := HS.out; omega) (by intro i hi h; rcases h with h | h; omega; cases h)))
  clear hw6 ht6 hv6
  go_wp2_with fail
  refine CC6.out.mono ?_
  rintro e w7 ⟨A, c, rfl, hown, hb7⟩
  have HO := Lib.hid (show Fresh w L (.returned (.slice A L.length c)) w7 from ⟨A, c, rfl, own_base hown HB6.out.size, HB6.out.trans (hb7.mono HB6.out.size)⟩)
  clear hown hb7
  go_wp2_with fail
  go_ret
  exact HO.out
end Go.Proofs.YtgkocmljnoambaaDoor
