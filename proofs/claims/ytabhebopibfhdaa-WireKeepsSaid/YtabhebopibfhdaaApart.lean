/-
  The references' Apart: true, where no two lists share memory. Conditions: each list a row of its own, sizes within the reach.
-/
import Derived.Test.YtabhebopibfhdaaMem
import Derived.Deep.CutBlock
import Derived.IntWalk
namespace Go.Proofs.Ytabhebopibfhdaa
open Go.RowKit

section
variable {w0 wr w' : World} {L m : Nat} {x : Nat → Value} {ns : Nat → Nat}

/-- Before byte k of list i is written over. -/
def Up1 (w0 : World) (m : Nat) (x : Nat → Value) (ns : Nat → Nat) (i k : Nat) (wr : World) : Prop :=
  ∃ c, St wr m x ns c ∧ (∀ j, j < i → c j = pat j (ns j)) ∧ (∀ t, t < k → (c i)[t]? = some (b8 (7 * (i : Int) + t))) ∧ Turns (Any m x) w0 wr

theorem Up1.next {i g n cap k : Nat} {c : Nat → List UInt8} (hL : Lists w0 L m x) (hi : i < m) (hx : x i = .slice (some ⟨g, 0, none⟩) n cap) (hk : k < ns i)
    (hs : St wr m x ns c) (h1 : ∀ j, j < i → c j = pat j (ns j)) (h2 : ∀ t, t < k → (c i)[t]? = some (b8 (7 * (i : Int) + t))) (h3 : Turns (Any m x) w0 wr) :
    Up1 w0 m x ns i (k + 1) (wr.setCell ⟨g, k, none⟩ (bv (b8 (7 * (i : Int) + k)))) := by
  refine ⟨_, hs.set hL hi hx k _, fun j hj => ?_, fun t ht => ?_, h3.setCell (fun _ => ⟨i, hi, by rw [hx]; rfl⟩) _⟩
  · unfold upd
    rw [if_neg (by omega)]
    exact h1 j hj
  · unfold upd
    rw [if_pos rfl]
    by_cases htk : t = k
    · subst htk
      rw [List.getElem?_set_self (by rw [(hs i hi).1]; exact hk)]
    · rw [List.getElem?_set_ne (by omega)]
      exact h2 t (by omega)

theorem Up1.turn {i : Nat} {c : Nat → List UInt8} (hs : St wr m x ns c) (h1 : ∀ j, j < i → c j = pat j (ns j)) (h2 : ∀ t, t < ns i → (c i)[t]? = some (b8 (7 * (i : Int) + t))) (hi : i < m) (h3 : Turns (Any m x) w0 wr) :
    Up1 w0 m x ns (i + 1) 0 wr := by
  refine ⟨c, hs, fun j hj => ?_, fun t ht => by omega, h3⟩
  by_cases hji : j = i
  · subst hji
    exact pat_of (hs j hi).1 h2
  · exact h1 j (by omega)

/-- Before list i is appended to. -/
def Up2 (w0 : World) (m : Nat) (x : Nat → Value) (ns : Nat → Nat) (i : Nat) (wr : World) : Prop :=
  (∀ j, j < m → i ≤ j → Mem wr (x j) (pat j (ns j))) ∧ (∀ j, j < i → Sees wr w0.heap.size (x j) (pat j (ns j))) ∧ Turns (Any m x) w0 wr

theorem Up2.first {c : Nat → List UInt8} {i : Nat} (him : i = m) (hs : St wr m x ns c) (h1 : ∀ j, j < i → c j = pat j (ns j)) (h3 : Turns (Any m x) w0 wr) : Up2 w0 m x ns 0 wr := by
  subst him
  refine ⟨fun j hj _ => ?_, fun j hj => by omega, h3⟩
  rw [← h1 j hj]
  exact (hs j hj).2

theorem Up2.next {w3 : World} {i g n : Nat} {o : Obj} {v : Value} (hL : Lists w0 L m x) (hi : i < m) (hn : ns i = n) (h : Up2 w0 m x ns i wr)
    (hg : (wr.alloc o).grownBy w3 (x i).ownBlock) (hat : (x i).ownBlock = some g ∨ g = (wr.alloc o).heap.size) (hs : Sees w3 (wr.alloc o).heap.size (x i) (pat i (ns i))) :
    Up2 w0 m x ns (i + 1) (w3.setCell ⟨g, n + 2, none⟩ v) := by
  obtain ⟨h1, h2, h3⟩ := h
  have hsz := h3.size
  have ht : Turns (fun k => (x i).ownBlock = some k ∨ wr.heap.size ≤ k) wr (w3.setCell ⟨g, n + 2, none⟩ v) := by
    refine (((Turns.refl _ wr).alloc o).grown hg (fun k hk _ => .inl hk)).setCell (fun _ => ?_) v
    rcases hat with hat | hat
    · exact .inl hat
    · right
      show wr.heap.size ≤ g
      rw [hat]
      simp
  have hoff : ∀ j, j < m → j ≠ i → ∀ k, (x j).ownBlock = some k → ¬ ((x i).ownBlock = some k ∨ wr.heap.size ≤ k) := by
    intro j hj hji k hk
    rintro (e | e)
    · exact hL.apart j i k hj hi hji hk e
    · have := hL.low j k hj hk; omega
  refine ⟨fun j hj hij => (h1 j hj (by omega)).turns ht (hoff j hj (by omega)), fun j hj => ?_, h3.trans ht (fun k hk hS => ?_)⟩
  · by_cases hji : j = i
    · subst hji
      rintro g0 n0 c0 hx
      obtain ⟨_, hc⟩ := hs g0 n0 c0 hx
      refine ⟨hL.low j g0 hi (by rw [hx]; rfl), fun t q hq => ?_⟩
      refine (World.cell?_setCell_other _ _ _ _ ?_).trans (hc t q hq)
      intro e
      injection e with _ e2
      have := (List.getElem?_eq_some_iff.1 hq).1
      rw [pat_length] at this
      omega
    · exact (h2 j (by omega)).turns ht hsz (hoff j (by omega) hji)
  · rcases hS with hS | hS
    · exact ⟨i, hi, hS⟩
    · omega
end

set_option maxHeartbeats 3200000 in
theorem apart_yes (L m cap : Nat) (x : Nat → Value) (ns : Nat → Nat) (w : World) (hm : m ≤ 100) (hL : Lists w L m x) (hn : ∀ i, i < m → ns i ≤ 60000)
    (h0 : ∃ c, St w m x ns c) (hLw : L < w.heap.size) :
    Calls Try.prog 31 #[.slice (some ⟨L, 0, none⟩) m cap] w fun e w' => e = .returned (.bool true) ∧ Turns (Any m x) w w' := by
  obtain ⟨i0, hi, hz0, hz1, hz2⟩ := info_parts info_u8
  have hform : ∀ j, j < m → ∃ A c, x j = .slice A (ns j) c ∧ ns j ≤ c ∧ c ≤ maxLen ∧ (0 < ns j → ∃ g, A = some ⟨g, 0, none⟩) := by
    obtain ⟨c, hc⟩ := h0
    intro j hj
    obtain ⟨hcl, hmem⟩ := hc j hj
    rcases hmem.2 with ⟨e, h0⟩ | ⟨g, cap, cur, e, _, hg, hnc, hcm, _, _⟩
    · exact ⟨none, 0, by rw [e, ← hcl, h0], by omega, by unfold maxLen; omega, fun h => by omega⟩
    · exact ⟨_, cap, by rw [e, hcl], by omega, hcm, fun _ => ⟨g, rfl⟩⟩
  have HF := Lib.hid hform
  clear hform
  have hLoff : ¬ Any m x L := fun ⟨j, hj, e⟩ => hL.off j hj e
  go_enter Try.func31, Try.ntmps31
  go_wp2_with fail
  go_loopw [3] (fun s wr => ∃ i : Nat, i ≤ m ∧ s = .int .i64 i ∧ Up1 w m x ns i 0 wr) (fun s _ => m - (intOf s).toNat)
  case atStart =>
    obtain ⟨c, hc⟩ := h0
    exact ⟨0, Nat.zero_le _, rfl, c, hc, fun j hj => by omega, fun t ht => by omega, Turns.refl _ _⟩
  case round =>
    obtain ⟨i, him, rfl, hup⟩ := hrel
    by_cases hlt : i < m
    · go_wp2_with fail
      go_loopw [4] (fun s wr => ∃ k : Nat, k ≤ ns i ∧ s = .int .i64 k ∧ Up1 w m x ns i k wr) (fun s _ => ns i - (intOf s).toNat)
      case atStart => exact ⟨0, Nat.zero_le _, rfl, hup⟩
      case round =>
        clear hup
        obtain ⟨k, hk, rfl, c, hs, h1, h2, h3⟩ := hrel
        have hli := (h3.cell (p := ⟨L, i, none⟩) hLw hLoff).trans (hL.list i hlt)
        have hnk := hn i hlt
        obtain ⟨hcl, hmem⟩ := hs i hlt
        obtain ⟨A, cc, hx⟩ := hmem.form
        rw [hcl] at hx
        rw [hx] at hli hmem
        by_cases hkl : k < ns i
        · obtain ⟨g, rfl, _, hg, hcc, hcm⟩ := hmem.block (by omega)
          obtain ⟨z, hz⟩ : ∃ z : Int, bv (c i)[k] = .int .u8 z := ⟨_, rfl⟩
          have hcell := hmem.cell (List.getElem?_eq_getElem (by omega : k < (c i).length))
          rw [hz] at hcell
          have hfree := hmem.free k
          have hnext := Up1.next hL hlt hx hkl hs h1 h2 h3
          rw [bv_b8] at hnext
          have hne : L ≠ g := by intro e; exact hL.off i hlt (by rw [hx, e]; rfl)
          have HN := Lib.hid hnext
          clear hnext hs h1 h2 h3 hcl hmem hz hx h0
          go_wp2_with fail
          refine ⟨⟨k + 1, by omega, by go_num, HN.out⟩, by simp [intOf]; omega⟩
        · go_wp2_with fail
          refine ⟨⟨i + 1, by omega, by go_num, Up1.turn hs h1 (fun t ht => h2 t (by omega)) hlt h3⟩, by simp [intOf]; omega⟩
    · obtain ⟨c, hs, h1, h2, h3⟩ := hup
      have hup2 := Up2.first (by omega : i = m) hs h1 h3
      clear hs h1 h2 h3 h0
      go_wp2_with fail
      go_loopw [5] (fun s wr => ∃ i : Nat, i ≤ m ∧ s = .int .i64 i ∧ Up2 w m x ns i wr) (fun s _ => m - (intOf s).toNat)
      case atStart => exact ⟨0, Nat.zero_le _, rfl, hup2⟩
      case round =>
        clear hup2
        obtain ⟨i, him, rfl, hup⟩ := hrel
        by_cases hlt : i < m
        · have hli := (hup.2.2.cell (p := ⟨L, i, none⟩) hLw hLoff).trans (hL.list i hlt)
          have hmem := hup.1 i hlt (Nat.le_refl _)
          obtain ⟨A, cc, hx⟩ := hmem.form
          rw [pat_length] at hx
          rw [hx] at hli
          have hnk := hn i hlt
          obtain ⟨n, hni⟩ : ∃ n, n = ns i := ⟨_, rfl⟩
          rw [← hni] at hx hli hnk
          obtain ⟨ps, hps⟩ : ∃ ps, ps = pat i (ns i) := ⟨_, rfl⟩
          have hpl : ps.length = n := by rw [hps, pat_length, hni]
          have hown : Mem (wr.alloc (.cells #[.int .u8 99, .int .u8 98, .int .u8 97] 5)) (.slice A n cc) ps := by
            rw [← hx, hps]
            exact hmem.turns ((Turns.refl (fun _ => False) wr).alloc _) (fun _ _ h => h)
          have hnews : ∀ j u, (([99, 98, 97] : List UInt8).map bv)[j]? = some u → (wr.alloc (.cells #[.int .u8 99, .int .u8 98, .int .u8 97] 5)).cell? ((⟨wr.heap.size, 0, none⟩ : Addr).add j) = some u := by
            intro j u hj
            have hadd : (⟨wr.heap.size, 0, none⟩ : Addr).add j = ⟨wr.heap.size, j, none⟩ := by unfold Addr.add; split <;> simp_all
            rw [hadd, cell_of_row _ wr.heap.size j _ _ _ (heap_alloc_new wr _)]
            match j, hj with
            | 0, hj => exact hj
            | 1, hj => exact hj
            | 2, hj => exact hj
          have HU := Lib.hid hup
          have HX := Lib.hid hx
          have HI := Lib.hid hni
          have HP := Lib.hid hps
          have HO := Lib.hid hown
          have HW := Lib.hid hnews
          clear hup hx hmem hni hps hown hnews
          go_wp2_with (at_builtin; refine wpList_append_sees rfl (.tmp 44) (.tmp 45) 24 rfl i0 slice_u8 hi hz0 hz1 hz2 (.slice A n cc) ps rfl HO.out ⟨wr.heap.size, 0, none⟩ 3 3 [99, 98, 97] rfl rfl (by omega) HW.out (by omega) ?_; intro g c2 w3 hm3 hg3 hat3 hs3; have hc3 := hm3.cell (k := n + 2) (q := 97) (by rw [← hpl, List.getElem?_append_right (by omega)]; simp); have hf3 := hm3.free (n + 2); rw [hpl]; have HM3 := Lib.hid hm3; have HG3 := Lib.hid hg3; have HA3 := Lib.hid hat3; have HS3 := Lib.hid hs3; clear hm3 hg3 hat3 hs3)
          refine ⟨⟨i + 1, by omega, by go_num, Up2.next hL hlt HI.out.symm HU.out (by rw [HX.out]; exact HG3.out) (by rw [HX.out]; exact HA3.out) (by rw [HX.out, ← HP.out]; exact HS3.out)⟩, by simp [intOf]; omega⟩
        · have hS : ∀ j, j < m → Sees wr w.heap.size (x j) (pat j (ns j)) := fun j hj => hup.2.1 j (by omega)
          have hT := hup.2.2
          have HS := Lib.hid hS
          have HT := Lib.hid hT
          clear hup hS hT
          go_wp2_with fail
          go_loopw [7] (fun s wx => ∃ j : Nat, j ≤ m ∧ s = .int .i64 j ∧ wx = wr) (fun s _ => m - (intOf s).toNat)
          case atStart => exact ⟨0, Nat.zero_le _, rfl, rfl⟩
          case round =>
            obtain ⟨j, hjm, rfl, rfl⟩ := hrel
            by_cases hjlt : j < m
            · go_wp2_with fail
              go_loopw [8] (fun s wx => ∃ k : Nat, k ≤ ns j ∧ s = .int .i64 k ∧ wx = wr) (fun s _ => ns j - (intOf s).toNat)
              case atStart => exact ⟨0, Nat.zero_le _, rfl, rfl⟩
              case round =>
                obtain ⟨k, hk, rfl, rfl⟩ := hrel
                have hlj := (HT.out.cell (p := ⟨L, j, none⟩) hLw hLoff).trans (hL.list j hjlt)
                obtain ⟨A, cc, hx, hcc, hcm, hA⟩ := HF.out j hjlt
                rw [hx] at hlj
                have hnk := hn j hjlt
                obtain ⟨n, hni⟩ : ∃ n, n = ns j := ⟨_, rfl⟩
                rw [← hni] at hlj hk hcc hA hnk ⊢
                by_cases hkl : k < n
                · obtain ⟨g, rfl⟩ := hA (by omega)
                  have hcell := (HS.out j hjlt _ _ _ hx).2 k _ (pat_at (by omega))
                  rw [bv_b8] at hcell
                  clear hx hni
                  go_wp2_with fail
                  exact ⟨⟨k + 1, by omega, by go_num, trivial⟩, by simp [intOf]; omega⟩
                · clear hx hni
                  go_wp2_with fail
                  exact ⟨⟨j + 1, by omega, by go_num, trivial⟩, by simp [intOf]; omega⟩
            · go_wp2_with fail
              go_ret
              exact ⟨rfl, HT.out⟩

end Go.Proofs.Ytabhebopibfhdaa
