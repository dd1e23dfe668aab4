/-
  block.Compare: which of two numbers is the greater. Conditions: none.
-/
import Derived.Test.YtgkocmljnoambaaDoorNGreat
import Derived.Lib.BytesEntry
import Derived.Laws.Externs
namespace Go.Proofs.YtgkocmljnoambaaDoor
open Go.RowKit

def cmpN (a b : Nat) : Int := if a < b then -1 else if b < a then 1 else 0
def ofLp : List Nat → Nat
  | [] => 0
  | d :: l => d * 256 ^ l.length + ofLp l
theorem cmp_lists : ∀ (xs ys : List Int), xs.length = ys.length → (∀ z ∈ xs, 0 ≤ z ∧ z ≤ 255) → (∀ z ∈ ys, 0 ≤ z ∧ z ≤ 255) →
    Lib.compareBytes (Lib.bytesOf xs) (Lib.bytesOf ys) = cmpN (ofL (xs.map Int.toNat)) (ofL (ys.map Int.toNat))
  | [], [], _, _, _ => rfl
  | x :: xs, y :: ys, hl, hx, hy => by
    have hl' : xs.length = ys.length := by simpa using hl
    have ih := cmp_lists xs ys hl' (fun z hz => hx z (List.mem_cons_of_mem _ hz)) (fun z hz => hy z (List.mem_cons_of_mem _ hz))
    have bx := hx x (List.mem_cons_self ..)
    have by' := hy y (List.mem_cons_self ..)
    have lx := ofL_lt (xs.map Int.toNat) (fun d hd => by obtain ⟨z, hz, rfl⟩ := List.mem_map.1 hd; have := hx z (List.mem_cons_of_mem _ hz); omega)
    have ly := ofL_lt (ys.map Int.toNat) (fun d hd => by obtain ⟨z, hz, rfl⟩ := List.mem_map.1 hd; have := hy z (List.mem_cons_of_mem _ hz); omega)
    rw [List.length_map] at lx ly
    rw [← hl'] at ly
    simp only [Lib.bytesOf, List.map_cons] at ih ⊢
    unfold Lib.compareBytes ofL
    rw [ih]
    rw [List.length_map, List.length_map, ← hl']
    have tx : (UInt8.ofNat x.toNat).toNat = x.toNat := by rw [UInt8.toNat_ofNat']; omega
    have ty : (UInt8.ofNat y.toNat).toNat = y.toNat := by rw [UInt8.toNat_ofNat']; omega
    obtain ⟨a, ha⟩ : ∃ a, a = x.toNat := ⟨_, rfl⟩
    obtain ⟨b, hb⟩ : ∃ b, b = y.toNat := ⟨_, rfl⟩
    rw [← ha] at tx ⊢
    rw [← hb] at ty ⊢
    generalize ofL (xs.map Int.toNat) = p at lx ⊢
    generalize ofL (ys.map Int.toNat) = q at ly ⊢
    generalize 256 ^ xs.length = N at lx ly ⊢
    simp only [UInt8.lt_iff_toNat_lt, tx, ty]
    unfold cmpN
    rcases Nat.lt_trichotomy a b with h | h | h
    · have h2 : (a + 1) * N ≤ b * N := Nat.mul_le_mul_right _ h
      rw [Nat.add_mul] at h2
      rw [if_pos h, if_pos (by omega)]
    · subst h
      rw [if_neg (by omega), if_neg (by omega)]
      by_cases h1 : p < q
      · rw [if_pos h1, if_pos (by omega)]
      · rw [if_neg h1, if_neg (show ¬ a * N + p < a * N + q by omega)]
        by_cases h2 : q < p
        · rw [if_pos h2, if_pos (by omega)]
        · rw [if_neg h2, if_neg (by omega)]
    · have h2 : (b + 1) * N ≤ a * N := Nat.mul_le_mul_right _ h
      rw [Nat.add_mul] at h2
      rw [if_neg (by omega), if_pos h, if_neg (by omega), if_pos (by omega)]
theorem ofL_num {a : Nat} (h : a < top) : ofL ((num a).map Int.toNat) = a := by
  have e : (num a).map Int.toNat = (List.range 32).map (fun i => a / 256 ^ (32 - 1 - i) % 256) := by
    unfold num
    rw [List.map_map]
    exact List.map_congr_left fun i _ => by
      show (((dg a i : Nat) : Int)).toNat = _
      rw [Int.toNat_natCast]
      rfl
  rw [e, ofL_div]
  exact Nat.mod_eq_of_lt h
theorem num_byte' (n : Nat) : ∀ z ∈ num n, 0 ≤ z ∧ z ≤ 255 := fun z hz => by
  obtain ⟨i, _, rfl⟩ := List.mem_map.1 hz
  have := dg_lt n i
  omega
theorem cmp_num {a b : Nat} (ha : a < top) (hb : b < top) : Lib.compareBytes (Lib.bytesOf (num a)) (Lib.bytesOf (num b)) = cmpN a b := by
  rw [cmp_lists _ _ (same_len a b) (num_byte' a) (num_byte' b), ofL_num ha, ofL_num hb]
where
  same_len (a b : Nat) : (num a).length = (num b).length := by rw [num_length, num_length]

theorem load_num {w : World} {g : Nat} {t : TypeId} {a : Nat} (h : IRow w g t .u8 (num a)) : (Extern.Bytes.bytesOf (.slice (some ⟨g, 0, none⟩) 32 32)).run Tryd.prog w = .ok ⟨(Lib.bytesOf (num a)).toArray⟩ w := by
  have hl := Lib.run_loadBytesX (P := Tryd.prog) w (num a) ⟨g, 0, none⟩ .empty (fun j x hj => by
    have e : (⟨g, 0, none⟩ : Addr).add j = ⟨g, 0 + j, none⟩ := by unfold Addr.add; split <;> simp_all
    rw [e, Nat.zero_add]
    exact h.cell hj)
  rw [num_length] at hl
  have he : (⟨ByteArray.empty.data ++ (Lib.bytesOf (num a)).toArray⟩ : ByteArray) = ⟨(Lib.bytesOf (num a)).toArray⟩ := by
    apply ByteArray.ext
    show (#[] : Array UInt8) ++ (Lib.bytesOf (num a)).toArray = (Lib.bytesOf (num a)).toArray
    simp
  rw [he] at hl
  exact hl
theorem run_cmp_num {w : World} {g1 g2 : Nat} {t1 t2 : TypeId} {a b : Nat} (ha : a < top) (hb : b < top) (h1 : IRow w g1 t1 .u8 (num a)) (h2 : IRow w g2 t2 .u8 (num b)) :
    (Extern.BytealgCompare.compare #[.slice (some ⟨g1, 0, none⟩) 32 32, .slice (some ⟨g2, 0, none⟩) 32 32]).run Tryd.prog w = .ok (.int .i64 (cmpN a b)) w := by
  change Sem.run Tryd.prog (do pure (goInt (Extern.BytealgCompare.cmp (← Extern.Bytes.bytesOf (.slice (some ⟨g1, 0, none⟩) 32 32)) (← Extern.Bytes.bytesOf (.slice (some ⟨g2, 0, none⟩) 32 32))))) w = _
  simp only [Sem.run_bind, Sem.run_pure, load_num h1, load_num h2, Result.andThen]
  rw [Lib.cmp_eq, cmp_num ha hb]
  rfl
set_option maxHeartbeats 800000 in
theorem bcmp_any {w : World} {g1 g2 : Nat} {t1 t2 : TypeId} {a b : Nat} (ha : a < top) (hb : b < top) (h1 : IRow w g1 t1 .u8 (num a)) (h2 : IRow w g2 t2 .u8 (num b)) :
    Calls Tryd.prog 30 #[.slice (some ⟨g1, 0, none⟩) 32 32, .slice (some ⟨g2, 0, none⟩) 32 32] w fun e w' => e = .returned (.int .i64 (cmpN a b)) ∧ w = w' := by
  have HR := Lib.hid (run_cmp_num ha hb h1 h2)
  clear h1 h2
  go_enter Tryd.func30, Tryd.ntmps30
  go_wp2
  rw [run_callFunc_extern Tryd.func44 (by kernel_rfl) (by kernel_rfl) (by kernel_rfl) (e := Extern.BytealgCompare.compare) (by kernel_rfl), HR.out]
  simp only [Result.andThen]
  rw [Oper.upon_value]
  go_wp2
  go_ret
  exact ⟨rfl, rfl⟩
theorem boxes2n (w : World) (t : TypeId) (a b : Nat) : ∃ W, (w.alloc (.cells (numA a) t)).alloc (.cells (numA b) t) = W ∧ IRow W w.heap.size t .u8 (num a) ∧ IRow W (w.heap.size + 1) t .u8 (num b) ∧ Below w.heap.size w W ∧ W.heap.size = w.heap.size + 2 := by
  obtain ⟨r1, r2, bA⟩ := boxes2 w t (num a) (num b) .u8
  exact ⟨_, rfl, r1, r2, bA, by simp⟩
set_option maxRecDepth 100000 in
set_option maxHeartbeats 1600000 in
theorem cmp_any (a b : Nat) (w : World) (ha : a < top) (hb : b < top) :
    Calls Tryd.prog 13 #[numV a, numV b] w fun e w' => e = .returned (.int .i64 (cmpN a b)) ∧ Below w.heap.size w w' := by
  obtain ⟨W, hW, r1, r2, bA, hs⟩ := boxes2n w 24 a b
  have CC := Lib.hid (fun n => (bcmp_any (w := W.drewN n) ha hb (r1.drewN n) (r2.drewN n)).mono (fun e w' (h : _ ∧ W.drewN n = w') => (⟨h.1, h.2.symm⟩ : e = .returned (.int .i64 (cmpN a b)) ∧ w' = W.drewN n)))
  have BA := Lib.hid bA
  have HW := Lib.hid hW
  clear ha hb r1 r2 bA hs hW
  unfold numV
  go_enter Tryd.func13, Tryd.ntmps13
  go_wp2_with fail
  rw [HW.out]
  go_quiet ((go_at_call 30; exact Calls.quiet_of_same (CC.out _)))
  go_wp2_with fail
  go_ret
  exact ⟨rfl, below_drewN BA.out _⟩
end Go.Proofs.YtgkocmljnoambaaDoor
