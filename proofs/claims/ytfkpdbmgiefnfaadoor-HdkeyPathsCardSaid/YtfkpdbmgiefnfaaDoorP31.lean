/-
  Texts joined: HkRefP, HkSplit, HkParsep. Conditions: those of each.
-/
import Derived.Test.YtfkpdbmgiefnfaaDoorP30
import Derived.Test.YtfkpdbmgiefnfaaDoorP20
import Derived.Maps.AppendAt
/-
  The reference's Path, walked: the same text as the program's. Conditions: at most 300 steps of 32 bits.
-/
namespace Go.Proofs.YtfkpdbmgiefnfaaDoor.Hk
open Go.RowKit

theorem ba_of {D : ByteArray} {l : List UInt8} (h : D.data.toList = l) : D = ⟨l.toArray⟩ := by
  apply Go.WideShapes.bytes_inj
  simp [← h]
theorem ba_list (l : List UInt8) : (⟨l.toArray⟩ : ByteArray).data.toList = l := by simp

set_option maxRecDepth 100000 in
set_option maxHeartbeats 6400000 in
theorem rpath_any (B : Nat) (v : Value) (ps : List Int) (w : World) (hx : Ints .u32 w B v ps) (hB : B ≤ w.heap.size) (hp : ∀ p ∈ ps, 0 ≤ p ∧ p < 4294967296) (hl : ps.length ≤ 300) :
    Calls Tryd.prog 13 #[v] w fun e w' => e = .returned (.string ⟨(pathB ps).toArray⟩) ∧ Below w.heap.size w w' := by
  obtain ⟨A, c, rfl, hlc, hcm, hA, hcell⟩ := hx
  have HP := Lib.hid hp
  have HBG := Lib.hid hB
  obtain ⟨n, hn⟩ : ∃ n, n = ps.length := ⟨_, rfl⟩
  rw [← hn] at hl hlc ⊢
  have HN := Lib.hid hn
  have HCELL := Lib.hid hcell
  clear hp hB hn hA hcell
  go_enter Tryd.func13, Tryd.ntmps13
  go_wp2_with fail
  go_loopw [3, 4] (fun v3 v4 wr => ∃ (i : Nat) (D : ByteArray), i ≤ n ∧ v4 = .int .i64 (i : Int) ∧ v3 = .string D ∧ Hid (D.data.toList = pathB (ps.take i)) ∧ Below w.heap.size w wr) (fun _ v4 _ => n - (intOf v4).toNat)
  case atStart => exact ⟨0, ⟨#[109]⟩, by omega, rfl, rfl, Lib.hid rfl, Below.refl _ _⟩
  case round =>
    obtain ⟨i, D, hi, rfl, rfl, HD, hbel⟩ := hrel
    by_cases hin : i < n
    · obtain ⟨p, hpi⟩ : ∃ p, ps[i]? = some p := ⟨_, List.getElem?_eq_getElem (by rw [← HN.out]; exact hin)⟩
      have hp2 := HP.out p (List.mem_of_getElem? hpi)
      obtain ⟨b, o, hAe, hbB, hcl⟩ := HCELL.out (by intro h; rw [h] at hpi; simp at hpi)
      subst hAe
      have hcp : wr.cell? ⟨b, o + i, none⟩ = some (.int .u32 p) := (hbel.cell (p := ⟨b, o + i, none⟩) (by show b < w.heap.size; have := HBG.out; omega)).trans (hcl i p hpi)
      have hsn : pathB (ps.take (i + 1)) = pathB (ps.take i) ++ stepB p := by rw [List.take_add_one, hpi]; exact pathB_snoc _ _
      have hDs : D.size ≤ 5000 := by
        rw [← blen, HD.out]
        have := pathB_len (ps.take i)
        rw [List.length_take] at this
        omega
      have hp0 := hp2.1
      have hp1 := hp2.2
      obtain ⟨d, hd⟩ : ∃ d, d = (p % 2147483648).toNat := ⟨_, rfl⟩
      have hdm : p % 2147483648 = (d : Int) := by omega
      have hdt : p.tmod 2147483648 = (d : Int) := by rw [Int.tmod_eq_emod_of_nonneg hp0]; exact hdm
      have hd1 : d < 2147483648 := by omega
      have hdw : IntKind.u32.wrap (d : Int) = (d : Int) := by rw [IntKind.wrap_u32]; omega
      have hst : stepB p = 47 :: Lib.decDigits d ++ (if 2147483648 ≤ p then [39] else []) := by unfold stepB; rw [hd]
      rw [hst, ← HD.out] at hsn
      have DC := Lib.hid (fun W => decimal_any 9 d W (by omega) (by omega) (by omega))
      have dl := dec_len 10 d (by omega) (by omega)
      obtain ⟨E, hE⟩ : ∃ E : ByteArray, E = ⟨(Lib.decDigits d).toArray⟩ := ⟨_, rfl⟩
      have hEl : E.data.toList = Lib.decDigits d := by rw [hE]
      have hEs : E.size ≤ 10 := by rw [← blen, hEl]; exact dl
      rw [← hE] at DC
      rw [← hEl] at hsn
      have HSN := Lib.hid hsn
      have HBEL := Lib.hid hbel
      clear hpi hp2 hcl hst hd hsn hE hEl dl hbel
      have a1 : (D ++ (⟨#[47]⟩ : ByteArray)).size = D.size + 1 := by rw [ByteArray.size_append]; rfl
      by_cases h31 : 2147483648 ≤ p
      · have hg : decide (2147483648 ≤ p) = true := decide_eq_true h31
        go_wp2_with fail
        refine (DC.out _).mono ?_
        rintro e w2 ⟨rfl, hb2⟩
        have hcp2 := (hb2.cell (p := ⟨b, o + i, none⟩) (World.block_lt_of_cell? _ _ hcp)).trans hcp
        have HB2 := Lib.hid (HBEL.out.trans (hb2.mono HBEL.out.size))
        clear hb2 hcp
        go_wp2_with fail
        go_roundw
        case rel => exact ⟨i + 1, _, by omega, by go_num, rfl, Lib.hid (by rw [HSN.out, if_pos h31]; simp), HB2.out⟩
        case measure => simp [intOf]; omega
      · have hg : decide (2147483648 ≤ p) = false := decide_eq_false h31
        go_wp2_with fail
        refine (DC.out _).mono ?_
        rintro e w2 ⟨rfl, hb2⟩
        have hcp2 := (hb2.cell (p := ⟨b, o + i, none⟩) (World.block_lt_of_cell? _ _ hcp)).trans hcp
        have HB2 := Lib.hid (HBEL.out.trans (hb2.mono HBEL.out.size))
        clear hb2 hcp
        go_wp2_with fail
        go_roundw
        case rel => exact ⟨i + 1, _, by omega, by go_num, rfl, Lib.hid (by rw [HSN.out, if_neg (show ¬ (2147483648 : Int) ≤ p by omega)]; simp), HB2.out⟩
        case measure => simp [intOf]; omega
    · have hie : ps.take i = ps := List.take_of_length_le (by rw [← HN.out]; omega)
      have hDD := ba_of HD.out
      rw [hie] at hDD
      have HDD := Lib.hid hDD
      have HBEL := Lib.hid hbel
      clear hie hDD hbel
      go_wp2_with fail
      go_ret
      exact ⟨by rw [HDD.out]; rfl, HBEL.out⟩
end Go.Proofs.YtfkpdbmgiefnfaaDoor.Hk

/-
  strings.SplitSeq at a slash: the parts come one by one. Conditions: a text within the reach.
-/
namespace Go.Proofs.YtfkpdbmgiefnfaaDoor.Hk
open Go.RowKit Go.Shelf

attribute [local go_sem] Oper.semAt_some

theorem idx_says : ∀ l : List UInt8, (Lib.indexByte l 47 = -1 ∧ ∀ c ∈ l, c ≠ 47) ∨ ∃ p r, l = p ++ 47 :: r ∧ Lib.indexByte l 47 = (p.length : Int) ∧ ∀ c ∈ p, c ≠ 47
  | [] => Or.inl ⟨rfl, by simp⟩
  | c :: l => by
    by_cases hc : c = 47
    · subst hc
      exact Or.inr ⟨[], l, rfl, by simp [Lib.indexByte], by simp⟩
    · rcases idx_says l with ⟨h1, h2⟩ | ⟨p, r, h1, h2, h3⟩
      · exact Or.inl ⟨by simp [Lib.indexByte, hc, h1], by simp [hc]; exact h2⟩
      · refine Or.inr ⟨c :: p, r, by rw [h1]; rfl, ?_, by simp [hc]; exact h3⟩
        have hne : ¬ ((p.length : Int) = -1) := by omega
        simp [Lib.indexByte, hc, h2, hne]
/-- The k-th part. -/
def partAt (l : List UInt8) (k : Nat) : List UInt8 := (partsOf l)[k]?.getD []
theorem partAt_short (l : List UInt8) (k : Nat) : (partAt l k).length ≤ l.length := by
  unfold partAt
  cases h : (partsOf l)[k]? with
  | none => simp
  | some p => exact partsOf_short l p (List.mem_of_getElem? h)
def encP (l : List UInt8) (k : Nat) : Array Value := #[.string ⟨(partAt l k).toArray⟩]
/-- What is left in the box. -/
def leftS (B : Nat) (W : World) : Nat := match W.cell? ⟨B, 0, none⟩ with | some (.string t) => t.size | _ => 0
theorem leftS_eq {B : Nat} {W : World} {t : ByteArray} (h : W.cell? ⟨B, 0, none⟩ = some (.string t)) : leftS B W = t.size := by unfold leftS; rw [h]
theorem ext_front (t : ByteArray) (p r : List UInt8) (h : t.data.toList = p ++ r) : (⟨p.toArray⟩ : ByteArray) = t.extract 0 p.length := by
  apply Go.WideShapes.bytes_inj
  rw [ByteArray.data_extract]
  simp [h]
theorem ext_back (t : ByteArray) (p r : List UInt8) (h : t.data.toList = p ++ r) : (t.extract p.length t.size).data.toList = r := by
  rw [ByteArray.data_extract]
  have hl : t.size = (p ++ r).length := by rw [← h]; exact (blen t).symm
  simp [h, hl]

set_option maxRecDepth 100000 in
set_option maxHeartbeats 3200000 in
theorem split_in (n : Nat) (hn : 1 ≤ n) (Bs Bp Bv : Nat) (h12 : Bs ≠ Bp) (h13 : Bs ≠ Bv) (s : ByteArray) (hs : s.size ≤ 100000) (w : World) (b1 : w.cell? ⟨Bs, 0, none⟩ = some (.string s)) (f1 : w.frozen? ⟨Bs, 0, none⟩ = false) (b2 : w.cell? ⟨Bp, 0, none⟩ = some (.string ⟨#[47]⟩)) (b3 : w.cell? ⟨Bv, 0, none⟩ = some (.int .i64 0)) :
    BoxSeq n Tryd.prog 58 #[.pointer (some ⟨Bp, 0, none⟩), .pointer (some ⟨Bs, 0, none⟩), .pointer (some ⟨Bv, 0, none⟩)] (encP s.data.toList) (fun b => b = Bs ∨ b = Bp ∨ b = Bv) Bs (fun xs => xs = List.range (partsOf s.data.toList).length) (fun pre => ∃ k, k ≤ (partsOf s.data.toList).length ∧ pre = List.range k) w := fun l J Jx W hW hJc hY h0 => by
  have c1 := (hW.cell (p := ⟨Bs, 0, none⟩) (World.block_lt_of_cell? _ _ b1)).trans b1
  have z1 := (hW.frozen (p := ⟨Bs, 0, none⟩) (World.block_lt_of_cell? _ _ b1)).trans f1
  have c2 := (hW.cell (p := ⟨Bp, 0, none⟩) (World.block_lt_of_cell? _ _ b2)).trans b2
  have c3 := (hW.cell (p := ⟨Bv, 0, none⟩) (World.block_lt_of_cell? _ _ b3)).trans b3
  obtain ⟨L, hL⟩ : ∃ L, L = s.data.toList := ⟨_, rfl⟩
  have hLs : s.size = L.length := by rw [hL]; exact (blen s).symm
  have HY := Lib.hid hY
  have HJC := Lib.hid hJc
  have HP0 := Lib.hid (show partsOf L = (partsOf L).take 0 ++ partsOf s.data.toList by rw [hL]; rfl)
  rw [← hL] at HY ⊢
  have HLS := Lib.hid hLs
  clear b1 b2 b3 hY hW hJc hL f1 hLs
  refine callsIn_of_wp Tryd.func58 rfl trivial ?_ rfl
  simp only [Tryd.ntmps58, List.size_toArray, List.length_cons, List.length_nil, Nat.reduceAdd, Nat.reduceSub, Array.replicate_succ, Array.replicate_zero, List.push_toArray, List.append_toArray, List.nil_append, List.cons_append]
  gi_wp2
  gi_loopw [7] (fun v7 wr => ∃ (t : ByteArray) (k : Nat), (wr.cell? ⟨Bs, 0, none⟩ = some (.string t) ∧ wr.frozen? ⟨Bs, 0, none⟩ = false ∧ wr.cell? ⟨Bp, 0, none⟩ = some (.string ⟨#[47]⟩) ∧ wr.cell? ⟨Bv, 0, none⟩ = some (.int .i64 0)) ∧ Hid (partsOf L = (partsOf L).take k ++ partsOf t.data.toList) ∧ k ≤ (partsOf L).length ∧ J (List.range k) wr ∧ t.size ≤ s.size) (fun _ wr => leftS Bs wr)
  case atStart => exact ⟨s, 0, ⟨c1, z1, c2, c3⟩, HP0, Nat.zero_le _, h0, Nat.le_refl _⟩
  case round =>
    obtain ⟨t, k, ⟨d1, y1, d2, d3⟩, HP, hk, hJ, hts⟩ := hrel
    have IX := Tryd.strings_Index_one t 47
    have hat : ∀ q qs, partsOf t.data.toList = q :: qs → partAt L k = q ∧ partsOf L = (partsOf L).take (k + 1) ++ qs ∧ (partsOf L).length = k + 1 + qs.length := fun q qs hq => by
      have h := HP.out
      rw [hq] at h
      have hl : ((partsOf L).take k).length = k := by rw [List.length_take]; omega
      have hg : (partsOf L)[k]? = some q := by
        rw [h, List.getElem?_append_right (by omega), hl]
        simp
      refine ⟨by unfold partAt; rw [hg]; rfl, ?_, ?_⟩
      · rw [List.take_add_one, hg]
        simpa using h
      · have := congrArg List.length h
        rw [List.length_append, hl, List.length_cons] at this
        omega
    have hlt : t.size ≤ 100000 := by omega
    rcases idx_says t.data.toList with ⟨hi, hno⟩ | ⟨p, r, hsp, hi, hno⟩
    · rw [hi] at IX
      obtain ⟨e1, e2, e3⟩ := hat _ _ (partsOf_no hno)
      obtain ⟨fn, tmps, assign, body, hy, hR⟩ := HY.out (List.range k) k wr hJ
      have hv : (⟨(partAt L k).toArray⟩ : ByteArray) = t := by rw [e1]
      unfold encP at hy
      rw [hv] at hy
      have E3 := Lib.hid (show (partsOf L).length = k + 1 by rw [e3]; simp)
      have IXH := Lib.hid IX
      clear hi hno e1 e2 e3 hv hat IX
      gi_wp2_with ((refine ⟨trivial, ?_⟩; gi_at_call 60; refine (callsIn_wide.2 (IXH.out _)).mono ?_; rintro e w' ⟨rfl, rfl⟩))
      refine hR.mono ?_
      rintro e W3 (⟨rfl, hJ3, hk3⟩ | ⟨rfl, hJx3⟩)
      · gi_wp2
        go_end0
        exact ⟨⟨_, rfl⟩, .inl ⟨_, rfl, by rw [E3.out, List.range_succ]; exact hJ3⟩⟩
      · gi_wp2
        go_end0
        exact ⟨⟨_, rfl⟩, .inr ⟨_, ⟨k + 1, Nat.le_of_eq E3.out.symm, rfl⟩, by rw [List.range_succ]; exact hJx3⟩⟩
    · rw [hi] at IX
      obtain ⟨e1, e2, e3⟩ := hat p (partsOf r) (by rw [hsp]; exact partsOf_cut hno)
      obtain ⟨fn, tmps, assign, body, hy, hR⟩ := HY.out (List.range k) k wr hJ
      have hv : (⟨(partAt L k).toArray⟩ : ByteArray) = t.extract 0 p.length := by rw [e1]; exact ext_front t p (47 :: r) hsp
      unfold encP at hy
      rw [hv] at hy
      obtain ⟨m, hm⟩ : ∃ m, m = p.length := ⟨_, rfl⟩
      have hmt : m + 1 + r.length = t.size := by rw [hm, ← blen, hsp]; simp; omega
      have hbk : (t.extract (m + 1) t.size).data.toList = r := by
        have h := ext_back t (p ++ [47]) r (by rw [hsp]; simp)
        rw [List.length_append, List.length_singleton, ← hm] at h
        exact h
      have hbs : (t.extract (m + 1) t.size).size = r.length := by rw [← blen, hbk]
      rw [← hm] at hy IX
      have HPN := Lib.hid (show partsOf L = (partsOf L).take (k + 1) ++ partsOf (t.extract (m + 1) t.size).data.toList by rw [hbk]; exact e2)
      have E3 := Lib.hid (show k + 1 ≤ (partsOf L).length by rw [e3]; omega)
      have IXH := Lib.hid IX
      have HBS := Lib.hid hbs
      have hlr : m + 1 ≤ t.size := by omega
      clear hi hno e1 e2 e3 hv hat IX hsp hbk hbs hm
      gi_wp2_with ((refine ⟨trivial, ?_⟩; gi_at_call 60; refine (callsIn_wide.2 (IXH.out _)).mono ?_; rintro e w' ⟨rfl, rfl⟩))
      refine hR.mono ?_
      rintro e W3 (⟨rfl, hJ3, hk3⟩ | ⟨rfl, hJx3⟩)
      · have d1' : W3.cell? ⟨Bs, 0, none⟩ = some (.string t) := (hk3.cell (p := ⟨Bs, 0, none⟩) (Or.inl rfl)).trans d1
        have y1' : W3.frozen? ⟨Bs, 0, none⟩ = false := (World.frozen?_of_block (a := ⟨Bs, 0, none⟩) (hk3 Bs (Or.inl rfl))).trans y1
        have D1 := Lib.hid d1
        have d2' : W3.cell? ⟨Bp, 0, none⟩ = some (.string ⟨#[47]⟩) := (hk3.cell (p := ⟨Bp, 0, none⟩) (Or.inr (Or.inl rfl))).trans d2
        have d3' : W3.cell? ⟨Bv, 0, none⟩ = some (.int .i64 0) := (hk3.cell (p := ⟨Bv, 0, none⟩) (Or.inr (Or.inr rfl))).trans d3
        clear d1 y1 d2 d3
        gi_wp2
        go_roundw
        case rel =>
          refine ⟨t.extract (m + 1) t.size, k + 1, ⟨World.cell?_setCell_same' _ _ _ (by rw [d1']; rfl), by rw [World.frozen?_setCell]; exact y1', ?_, ?_⟩, HPN, E3.out, by rw [List.range_succ]; exact HJC.out _ _ _ hJ3, by rw [HBS.out]; omega⟩
          · exact (World.cell?_of_block (w := W3) (Below.heap_setCell _ _ _ _ (fun h => h12 h.symm))).trans d2'
          · exact (World.cell?_of_block (w := W3) (Below.heap_setCell _ _ _ _ (fun h => h13 h.symm))).trans d3'
        case measure =>
          rw [leftS_eq (World.cell?_setCell_same' _ _ _ (by rw [d1']; rfl)), leftS_eq D1.out, HBS.out]
          omega
      · gi_wp2
        refine bodyPost_ret (results_none rfl _ _ _) rfl ?_
        exact ⟨⟨_, rfl⟩, .inr ⟨_, ⟨k + 1, E3.out, rfl⟩, by rw [List.range_succ]; exact hJx3⟩⟩
end Go.Proofs.YtfkpdbmgiefnfaaDoor.Hk

/-
  hdkey.ParsePath, walked. Conditions: a text within the reach; strconv.ErrRange holds an error or none.
-/
namespace Go.Proofs.YtfkpdbmgiefnfaaDoor.Hk
open Go.RowKit Go.Shelf

attribute [local go_sem] Oper.semAt_some

theorem split_any (s sep : ByteArray) (w : World) :
    Calls Tryd.prog 23 #[.string s, .string sep] w fun e w' => e = .returned (.func (.func 58) #[] #[.pointer (some ⟨w.heap.size + 1, 0, none⟩), .pointer (some ⟨w.heap.size, 0, none⟩), .pointer (some ⟨w.heap.size + 2, 0, none⟩)]) ∧ w' = ((w.alloc (.cells #[.string s] 9)).alloc (.cells #[.string sep] 9)).alloc (.cells #[.int .i64 0] 3) := by
  have hmf : ∀ (fn : Fn) (first cap : Array Value) (w : World), (Instr.makeFunc fn first cap).run Tryd.prog w = .ok (.func fn first cap) w := fun _ _ _ _ => rfl
  have h1 : ∀ W : World, Calls Tryd.prog 37 #[.string s, .string sep, .int .i64 0] W fun e w' => e = .returned (.func (.func 58) #[] #[.pointer (some ⟨W.heap.size + 1, 0, none⟩), .pointer (some ⟨W.heap.size, 0, none⟩), .pointer (some ⟨W.heap.size + 2, 0, none⟩)]) ∧ w' = ((W.alloc (.cells #[.string s] 9)).alloc (.cells #[.string sep] 9)).alloc (.cells #[.int .i64 0] 3) := fun W => by
    go_enter Tryd.func37, Tryd.ntmps37
    go_wp2_with fail
    go_ret
    exact ⟨rfl, rfl⟩
  go_enter Tryd.func23, Tryd.ntmps23
  go_wp2_with fail
  refine (h1 _).mono ?_
  rintro e w2 ⟨rfl, rfl⟩
  go_wp2_with fail
  go_ret
  exact ⟨rfl, rfl⟩

theorem grown_of_below {A C : World} (h : Below A.heap.size A C) : A.grownBy C none := by
  obtain ⟨a, b, c, d, e⟩ := h
  exact ⟨a, b, c, d, fun k hk _ => e k hk⟩
theorem keeps_of_below {A C : World} (h : Below A.heap.size A C) (D : Nat) : KeepsFrom D A C :=
  ⟨h.size, fun k _ _ hk _ => (h.block k (Array.getElem?_eq_some_iff.1 hk).1).trans hk⟩
theorem boxed_later {A C : World} {B : Nat} {t : TypeId} {v : Value} (h : Boxed A B t v) (hb : Below A.heap.size A C) : Boxed C B t v := h.kept (grown_of_below hb) (by simp)
theorem boxed_row {A : World} {B : Nat} {t : TypeId} {v : Value} {row : Option Nat} (h : Boxed A B t v) (hr : ∀ r, row = some r → ∃ o : Obj, A.heap[r]? = some o ∧ o.isCells = false) : some B ≠ row := fun e => by
  obtain ⟨o, ho, hc⟩ := hr B e.symm
  rw [show A.heap[B]? = _ from h] at ho
  cases ho
  cases hc
theorem parts_all (T : List UInt8) : (List.range (partsOf T).length).map (partAt T) = partsOf T := by
  apply List.ext_getElem?
  intro i
  rw [List.getElem?_map]
  by_cases h : i < (partsOf T).length
  · rw [List.getElem?_eq_getElem h, List.getElem?_eq_getElem (by simpa using h)]
    simp [partAt, h]
  · rw [List.getElem?_eq_none (Nat.le_of_not_lt h), List.getElem?_eq_none (by simpa using h)]
    rfl
theorem partAt_mem {T : List UInt8} {k : Nat} (h : k < (partsOf T).length) : partAt T k ∈ partsOf T := by
  unfold partAt
  rw [List.getElem?_eq_getElem h]
  exact List.getElem_mem h
theorem uint_info : (Tryd.prog.info? 27).map (fun i => (i.zero, i.size, i.bytes)) = some (some (.int .u32 0), 1, 4) := by kernel_rfl
/-- The program's state when these parts have come. -/
def pathOf (T : List UInt8) (pre : List Nat) : List Int := (pst (pre.map (partAt T))).1
def zOf (T : List UInt8) (pre : List Nat) : Bool := (pst (pre.map (partAt T))).2
theorem of_snoc (T : List UInt8) (pre : List Nat) (x : Nat) : (pathOf T (pre ++ [x]), zOf T (pre ++ [x])) = accP (pathOf T pre, zOf T pre) (partAt T x) := by
  unfold pathOf zOf
  rw [List.map_append, List.map_singleton, pst_snoc]
structure LoopI (G : Nat) (w : World) (T : List UInt8) (pre : List Nat) (W : World) : Prop where
  path : ∃ v, Boxed W (G + 1 + 1) 41 v ∧ W.ownsRow G 27 1 v (pathOf T pre).length ((pathOf T pre).map (Value.int .u32)) ∧ True
  size : Boxed W (G + 1 + 1 + 1) 32 (.int .i64 (if zOf T pre then 2 else 0))
  r2 : Boxed W G 41 (.slice none 0 0)
  r3 : Boxed W (G + 1) 32 (.int .i64 0)
  it : ∃ u, Boxed W (G + 1 + 1 + 1 + 1) 9 u
  it5 : ∃ u, Boxed W (G + 1 + 1 + 1 + 1 + 1) 9 u
  it6 : ∃ u, Boxed W (G + 1 + 1 + 1 + 1 + 1 + 1) 3 u
  ok : ∀ k ∈ pre, stepE (partAt T k) ≠ 3
  below : Below G w W
  big : G + 1 + 1 + 1 + 1 + 1 + 1 + 1 ≤ W.heap.size
structure LoopX (G : Nat) (w : World) (T : List UInt8) (pre : List Nat) (W : World) : Prop where
  r2 : Boxed W G 41 (.slice none 0 0)
  r3 : Boxed W (G + 1) 32 (.int .i64 3)
  bad : ∃ k ∈ pre, stepE (partAt T k) = 3
  below : Below G w W
theorem loopI_own {G B : Nat} {w : World} {T : List UInt8} (hw : G ≤ w.heap.size) (hB : G ≤ B) : OwnFrom B (LoopI G w T) := fun s A C row h hg hr => by
  have hr' : ∀ r, row = some r → ∃ o : Obj, A.heap[r]? = some o ∧ o.isCells = false := fun r e => (hr r e).2
  obtain ⟨u, hu⟩ := h.it
  obtain ⟨u5, hu5⟩ := h.it5
  obtain ⟨u6, hu6⟩ := h.it6
  exact ⟨holdsRow_own G (G + 1 + 1) 41 27 1 (fun p => (pathOf T p).length) (fun p => (pathOf T p).map (Value.int .u32)) (fun _ _ => True) s A C row h.path hg hr', h.size.kept hg (boxed_row h.size hr'), h.r2.kept hg (boxed_row h.r2 hr'), h.r3.kept hg (boxed_row h.r3 hr'), ⟨u, hu.kept hg (boxed_row hu hr')⟩, ⟨u5, hu5.kept hg (boxed_row hu5 hr')⟩, ⟨u6, hu6.kept hg (boxed_row hu6 hr')⟩, h.ok, ownFrom_below (β := Unit) hw hB () A C row h.below hg hr, Nat.le_trans h.big hg.size⟩
theorem loopX_own {G B : Nat} {w : World} {T : List UInt8} (hw : G ≤ w.heap.size) (hB : G ≤ B) : OwnFrom B (LoopX G w T) := fun s A C row h hg hr => by
  have hr' : ∀ r, row = some r → ∃ o : Obj, A.heap[r]? = some o ∧ o.isCells = false := fun r e => (hr r e).2
  exact ⟨h.r2.kept hg (boxed_row h.r2 hr'), h.r3.kept hg (boxed_row h.r3 hr'), h.bad, ownFrom_below (β := Unit) hw hB () A C row h.below hg hr⟩
theorem loopI_set {G : Nat} {w : World} {T : List UInt8} {pre : List Nat} {W : World} (h : LoopI G w T pre W) (u : Value) : LoopI G w T pre (W.setCell ⟨G + 1 + 1 + 1 + 1, 0, none⟩ u) := by
  obtain ⟨v, hv, hrow, _⟩ := h.path
  obtain ⟨q, hq⟩ := h.it
  obtain ⟨q5, hq5⟩ := h.it5
  obtain ⟨q6, hq6⟩ := h.it6
  exact ⟨⟨v, hv.other (by omega) u, hrow.kept (grownBy_setCell' W _ u) (.inr (hq.not_row (by decide) hrow).symm), trivial⟩, h.size.other (by omega) u, h.r2.other (by omega) u, h.r3.other (by omega) u, ⟨u, hq.set u⟩, ⟨q5, hq5.other (by omega) u⟩, ⟨q6, hq6.other (by omega) u⟩, h.ok, h.below.setCell (p := ⟨G + 1 + 1 + 1 + 1, 0, none⟩) (by show G ≤ G + 1 + 1 + 1 + 1; omega) u, Nat.le_trans h.big (grownBy_setCell' W (G + 1 + 1 + 1 + 1) u).size⟩

theorem fin_at {G : Nat} {w : World} {T : List UInt8} {pre : List Nat} {W : World} (h : LoopI G w T pre W) (hGw : G ≤ w.heap.size) (X Y : Value) (D : Nat) (hD : G ≤ D) (hK : W.heap[D]? = some (.deferred (some []))) :
    ((W.setCell ⟨G, 0, none⟩ X).setCell ⟨G + 1, 0, none⟩ Y).heap[D]? = some (.deferred (some [])) ∧
    (((W.setCell ⟨G, 0, none⟩ X).setCell ⟨G + 1, 0, none⟩ Y).putObj D (.deferred none)).cell? ⟨G, 0, none⟩ = some X ∧
    (((W.setCell ⟨G, 0, none⟩ X).setCell ⟨G + 1, 0, none⟩ Y).putObj D (.deferred none)).cell? ⟨G + 1, 0, none⟩ = some Y ∧
    (∀ v k xs, W.ownsRow G 27 1 v k xs → (((W.setCell ⟨G, 0, none⟩ X).setCell ⟨G + 1, 0, none⟩ Y).putObj D (.deferred none)).ownsRow G 27 1 v k xs) ∧
    Below G w (((W.setCell ⟨G, 0, none⟩ X).setCell ⟨G + 1, 0, none⟩ Y).putObj D (.deferred none)) := by
  have hK' := ((KeepsOthers.setCell W ⟨G, 0, none⟩ X).trans (KeepsOthers.setCell _ ⟨G + 1, 0, none⟩ Y)).same D _ hK rfl
  have q2 := (h.r2.set X).other (B' := G + 1) (by omega) Y
  have q3 := (h.r3.other (B' := G) (by omega) X).set Y
  have b2 := (h.below.setCell (p := ⟨G, 0, none⟩) (Nat.le_refl _) X).setCell (p := ⟨G + 1, 0, none⟩) (by show G ≤ G + 1; omega) Y
  refine ⟨hK', cell_kept q2.cell (grownBy_putObj' _ D (.deferred none)) (fun r e => by cases e; exact ⟨_, hK', rfl⟩), cell_kept q3.cell (grownBy_putObj' _ D (.deferred none)) (fun r e => by cases e; exact ⟨_, hK', rfl⟩), fun v k xs hr => ?_, b2.grown (grownBy_putObj' _ D (.deferred none)) (Nat.le_trans hGw b2.size) (fun k e => by cases e; exact hD)⟩
  have r1 := hr.kept (grownBy_setCell' W G X) (.inr (h.r2.not_row (by decide) hr).symm)
  exact ownsRow_putObj (r1.kept (grownBy_setCell' _ (G + 1) Y) (.inr ((h.r3.other (B' := G) (by omega) X).not_row (by decide) r1).symm)) _ hK' rfl
theorem loopI_drew {G : Nat} {w : World} {T : List UInt8} {pre : List Nat} {W : World} (h : LoopI G w T pre W) : LoopI G w T pre W.drew := ⟨h.path, h.size, h.r2, h.r3, h.it, h.it5, h.it6, h.ok, h.below.drew, h.big⟩

theorem stepE_three (l : List UInt8) : stepE l = 0 ∨ stepE l = 2 ∨ stepE l = 3 := by
  unfold stepE
  split
  · split
    · exact Or.inl rfl
    · exact Or.inr (Or.inl rfl)
  · exact Or.inr (Or.inr rfl)
theorem row_later {A C : World} {base : Nat} {e : TypeId} {z k : Nat} {v : Value} {xs : List Value} (h : A.ownsRow base e z v k xs) (hb : Below A.heap.size A C) : C.ownsRow base e z v k xs := h.kept (grown_of_below hb) (Classical.em _)
theorem stay_later {A C : World} {G : Nat} (hz : G + 1 + 1 + 1 + 1 + 1 + 1 + 1 ≤ A.heap.size) (hb : Below A.heap.size A C) : Stay (fun b => b = G + 1 + 1 + 1 + 1 ∨ b = G + 1 + 1 + 1 + 1 + 1 ∨ b = G + 1 + 1 + 1 + 1 + 1 + 1) A C := fun b h => hb.block b (by omega)
theorem stay_set {A : World} {G B : Nat} (hB : B < G + 1 + 1 + 1 + 1) (u : Value) : Stay (fun b => b = G + 1 + 1 + 1 + 1 ∨ b = G + 1 + 1 + 1 + 1 + 1 ∨ b = G + 1 + 1 + 1 + 1 + 1 + 1) A (A.setCell ⟨B, 0, none⟩ u) := fun b h => Below.heap_setCell _ _ _ _ (by show b ≠ B; omega)
theorem loopI_great {G : Nat} {w : World} {T : List UInt8} {pre : List Nat} {W w2 : World} {x : Nat} (h : LoopI G w T pre W) (hGw : G ≤ w.heap.size) (hb : Below W.heap.size W w2) (h3 : stepE (partAt T x) ≠ 3) (ha : accP (pathOf T pre, zOf T pre) (partAt T x) = (pathOf T pre, true)) :
    LoopI G w T (pre ++ [x]) (w2.setCell ⟨G + 1 + 1 + 1, 0, none⟩ (.int .i64 2)) := by
  have hs := of_snoc T pre x
  rw [ha] at hs
  have e1 : pathOf T (pre ++ [x]) = pathOf T pre := (Prod.mk.inj hs).1
  have e2 : zOf T (pre ++ [x]) = true := (Prod.mk.inj hs).2
  obtain ⟨v, hv, hrow, _⟩ := h.path
  obtain ⟨q, hq⟩ := h.it
  obtain ⟨q5, hq5⟩ := h.it5
  obtain ⟨q6, hq6⟩ := h.it6
  have hz := boxed_later h.size hb
  refine ⟨⟨v, (boxed_later hv hb).other (by omega) _, ?_, trivial⟩, by rw [e2]; exact hz.set _, (boxed_later h.r2 hb).other (by omega) _, (boxed_later h.r3 hb).other (by omega) _, ⟨q, (boxed_later hq hb).other (by omega) _⟩, ⟨q5, (boxed_later hq5 hb).other (by omega) _⟩, ⟨q6, (boxed_later hq6 hb).other (by omega) _⟩, fun k hk => ?_, ?_, ?_⟩
  · rw [e1]
    exact (row_later hrow hb).kept (grownBy_setCell' w2 _ _) (.inr (hz.not_row (by decide) (row_later hrow hb)).symm)
  · rcases List.mem_append.1 hk with hk | hk
    · exact h.ok k hk
    · simp at hk
      rw [hk]
      exact h3
  · exact (h.below.trans (hb.mono (Nat.le_trans hGw h.below.size))).setCell (p := ⟨G + 1 + 1 + 1, 0, none⟩) (by show G ≤ G + 1 + 1 + 1; omega) _
  · exact Nat.le_trans (Nat.le_trans h.big hb.size) (grownBy_setCell' w2 (G + 1 + 1 + 1) _).size

theorem loopI_more {G : Nat} {w : World} {T : List UInt8} {pre : List Nat} {W w2 w1 : World} {x n : Nat} {v v' : Value} {tmp : Obj} (h : LoopI G w T pre W) (hGw : G ≤ w.heap.size) (hb : Below W.heap.size W w2) (h3 : stepE (partAt T x) ≠ 3) (ha : accP (pathOf T pre, zOf T pre) (partAt T x) = (pathOf T pre ++ [(n : Int)], zOf T pre))
    (hv : Boxed w2 (G + 1 + 1) 41 v) (hrow : w2.ownsRow G 27 1 v (pathOf T pre).length ((pathOf T pre).map (Value.int .u32))) (hown : w1.ownsRow G 27 1 v' ((pathOf T pre).length + 1) ((pathOf T pre).map (Value.int .u32) ++ [.int .u32 (n : Int)])) (hg : (w2.alloc tmp).grownBy w1 v.ownBlock) :
    KeepsFrom (G + 1 + 1 + 1 + 1 + 1 + 1 + 1) W (w1.setCell ⟨G + 1 + 1, 0, none⟩ v') ∧ Stay (fun b => b = G + 1 + 1 + 1 + 1 ∨ b = G + 1 + 1 + 1 + 1 + 1 ∨ b = G + 1 + 1 + 1 + 1 + 1 + 1) W (w1.setCell ⟨G + 1 + 1, 0, none⟩ v') ∧ LoopI G w T (pre ++ [x]) (w1.setCell ⟨G + 1 + 1, 0, none⟩ v') := by
  have hs := of_snoc T pre x
  rw [ha] at hs
  have e1 : pathOf T (pre ++ [x]) = pathOf T pre ++ [(n : Int)] := (Prod.mk.inj hs).1
  have e2 : zOf T (pre ++ [x]) = zOf T pre := (Prod.mk.inj hs).2
  have hsz : G ≤ w2.heap.size := Nat.le_trans (Nat.le_trans hGw h.below.size) hb.size
  obtain ⟨a1, a2, a3, a4, a5⟩ := hv.appended (by decide) hrow hsz (by omega) hown hg
  have mv : ∀ {B : Nat} {t : TypeId} {u : Value}, Boxed W B t u → t ≠ 27 → B ≠ G + 1 + 1 → Boxed (w1.setCell ⟨G + 1 + 1, 0, none⟩ v') B t u := fun hB ht hne =>
    (((boxed_later hB hb).alloc tmp).kept hg ((boxed_later hB hb).not_row ht hrow)).other hne v'
  obtain ⟨q, hq⟩ := h.it
  obtain ⟨q5, hq5⟩ := h.it5
  obtain ⟨q6, hq6⟩ := h.it6
  have m4 := mv hq (by decide) (by omega)
  have m5 := mv hq5 (by decide) (by omega)
  have m6 := mv hq6 (by decide) (by omega)
  refine ⟨(keeps_of_below hb _).trans (a4.from _), fun b hbk => ?_, ⟨⟨v', a2, ?_, trivial⟩, by rw [e2]; exact mv h.size (by decide) (by omega), mv h.r2 (by decide) (by omega), mv h.r3 (by decide) (by omega), ⟨q, m4⟩, ⟨q5, m5⟩, ⟨q6, m6⟩, fun k hk => ?_, ?_, ?_⟩⟩
  · rcases hbk with rfl | rfl | rfl
    · exact (show _ = _ from m4).trans (show _ = _ from hq).symm
    · exact (show _ = _ from m5).trans (show _ = _ from hq5).symm
    · exact (show _ = _ from m6).trans (show _ = _ from hq6).symm
  · rw [e1, List.length_append, List.map_append]
    exact a3
  · rcases List.mem_append.1 hk with hk | hk
    · exact h.ok k hk
    · simp at hk
      rw [hk]
      exact h3
  · exact (h.below.trans (hb.mono (Nat.le_trans hGw h.below.size))).trans a5
  · have s1 := hg.size
    rw [World.size_alloc] at s1
    exact Nat.le_trans (Nat.le_trans (Nat.le_trans h.big hb.size) (by omega)) (grownBy_setCell' w1 (G + 1 + 1) _).size

set_option maxRecDepth 100000 in
set_option maxHeartbeats 3200000 in
theorem parse_in (s : ByteArray) (hs : s.size ≤ 100000) (hm : s.data.toList ≠ [109]) (w : World) (he : ErrOk w) :
    CallsIn Fence.wide 3 Tryd.prog 12 #[.string s] w fun e w' => ∃ v, e = .returned (.tuple #[v, .int .i64 (parseP s.data.toList).2]) ∧ w'.ownsRow w.heap.size 27 1 v (parseP s.data.toList).1.length ((parseP s.data.toList).1.map (Value.int .u32)) ∧ Below w.heap.size w w' := by
  have hms : (s.toList == [109]) = false := by rw [ByteArray.toList_eq]; simpa using hm
  have HR := Lib.hid (show parseP s.data.toList = outR (partsOf (trimM s.data.toList)) by unfold parseP; rw [if_neg hm])
  have HE := Lib.hid he
  have HTR := Lib.hid (fun W => Tryd.strings_TrimPrefix s ⟨#[109, 47]⟩ W)
  clear he hm
  refine callsIn_of_wp_marks Tryd.func12 rfl trivial ?_ rfl
  simp only [Tryd.ntmps12, List.size_toArray, List.length_cons, List.length_nil, Nat.reduceAdd, Nat.reduceSub, Array.replicate_succ, Array.replicate_zero, List.push_toArray, List.append_toArray, List.nil_append, List.cons_append]
  gi_wp2_with (first | (refine ⟨trivial, ?_⟩; gi_at_call 24; refine (callsIn_wide.2 (HTR.out _)).mono ?_; rintro e w' ⟨rfl, rfl⟩) | (refine ⟨trivial, ?_⟩; gi_at_call 23; refine (callsIn_wide.2 (split_any _ _ _)).mono ?_; rintro e w' ⟨rfl, rfl⟩))
  obtain ⟨TR, hTR⟩ : ∃ TR : ByteArray, TR = ⟨(Lib.trimPrefix s.data.toList [109, 47]).toArray⟩ := ⟨_, rfl⟩
  rw [← hTR]
  have hTl : TR.data.toList = trimM s.data.toList := by rw [hTR]; rfl
  obtain ⟨T, hT⟩ : ∃ T, T = trimM s.data.toList := ⟨_, rfl⟩
  rw [← hT] at hTl
  have hTs : TR.size ≤ 100000 := by
    rw [← blen, hTl, hT]
    unfold trimM Lib.trimPrefix
    have := blen s
    split
    · rw [List.length_drop]; omega
    · omega
  have HRT := Lib.hid (show parseP s.data.toList = outR (partsOf T) by rw [HR.out, hT])
  obtain ⟨G, hG⟩ : ∃ G, G = w.heap.size := ⟨_, rfl⟩
  have e2 : G + 1 + 1 + 1 + 1 + 2 = G + 1 + 1 + 1 + 1 + 1 + 1 := by omega
  rw [← hG, e2]
  have HG := Lib.hid hG
  clear hTR hT HR HTR hms e2
  -- the seven boxes
  have i1 := Boxed.new w 41 (.slice none 0 0)
  rw [← hG] at i1
  obtain ⟨w1, hw1⟩ : ∃ w1, w1 = w.alloc (.cells #[.slice none 0 0] 41) := ⟨_, rfl⟩
  have z1 : w1.heap.size = G + 1 := by rw [hw1, World.size_alloc, hG]
  have l1 : Below G w w1 := by rw [hw1, hG]; exact (Below.refl _ w).alloc (Nat.le_refl _) _
  rw [← hw1] at i1 ⊢
  clear hw1
  have i2 := Boxed.new w1 32 (.int .i64 0)
  rw [z1] at i2
  obtain ⟨w2, hw2⟩ : ∃ w2, w2 = w1.alloc (.cells #[.int .i64 0] 32) := ⟨_, rfl⟩
  have z2 : w2.heap.size = G + 1 + 1 := by rw [hw2, World.size_alloc, z1]
  have l2 : Below G w w2 := by rw [hw2]; exact l1.alloc (by omega) _
  have i1 := i1.alloc (.cells #[.int .i64 0] 32)
  rw [← hw2] at i1 i2 ⊢
  clear hw2 l1 z1
  have i3 := Boxed.new w2 41 (.slice none 0 0)
  rw [z2] at i3
  obtain ⟨w3, hw3⟩ : ∃ w3, w3 = w2.alloc (.cells #[.slice none 0 0] 41) := ⟨_, rfl⟩
  have z3 : w3.heap.size = G + 1 + 1 + 1 := by rw [hw3, World.size_alloc, z2]
  have l3 : Below G w w3 := by rw [hw3]; exact l2.alloc (by omega) _
  have i1 := i1.alloc (.cells #[.slice none 0 0] 41)
  have i2 := i2.alloc (.cells #[.slice none 0 0] 41)
  rw [← hw3] at i1 i2 i3 ⊢
  clear hw3 l2 z2
  have i4 := Boxed.new w3 32 (.int .i64 0)
  rw [z3] at i4
  obtain ⟨w4, hw4⟩ : ∃ w4, w4 = w3.alloc (.cells #[.int .i64 0] 32) := ⟨_, rfl⟩
  have z4 : w4.heap.size = G + 1 + 1 + 1 + 1 := by rw [hw4, World.size_alloc, z3]
  have l4 : Below G w w4 := by rw [hw4]; exact l3.alloc (by omega) _
  have i1 := i1.alloc (.cells #[.int .i64 0] 32)
  have i2 := i2.alloc (.cells #[.int .i64 0] 32)
  have i3 := i3.alloc (.cells #[.int .i64 0] 32)
  rw [← hw4] at i1 i2 i3 i4 ⊢
  clear hw4 l3 z3
  have i5 := Boxed.new w4 9 (.string TR)
  rw [z4] at i5
  obtain ⟨w5, hw5⟩ : ∃ w5, w5 = w4.alloc (.cells #[.string TR] 9) := ⟨_, rfl⟩
  have z5 : w5.heap.size = G + 1 + 1 + 1 + 1 + 1 := by rw [hw5, World.size_alloc, z4]
  have l5 : Below G w w5 := by rw [hw5]; exact l4.alloc (by omega) _
  have i1 := i1.alloc (.cells #[.string TR] 9)
  have i2 := i2.alloc (.cells #[.string TR] 9)
  have i3 := i3.alloc (.cells #[.string TR] 9)
  have i4 := i4.alloc (.cells #[.string TR] 9)
  rw [← hw5] at i1 i2 i3 i4 i5 ⊢
  clear hw5 l4 z4
  have i6 := Boxed.new w5 9 (.string ⟨#[47]⟩)
  rw [z5] at i6
  obtain ⟨w6, hw6⟩ : ∃ w6, w6 = w5.alloc (.cells #[.string ⟨#[47]⟩] 9) := ⟨_, rfl⟩
  have z6 : w6.heap.size = G + 1 + 1 + 1 + 1 + 1 + 1 := by rw [hw6, World.size_alloc, z5]
  have l6 : Below G w w6 := by rw [hw6]; exact l5.alloc (by omega) _
  have i1 := i1.alloc (.cells #[.string ⟨#[47]⟩] 9)
  have i2 := i2.alloc (.cells #[.string ⟨#[47]⟩] 9)
  have i3 := i3.alloc (.cells #[.string ⟨#[47]⟩] 9)
  have i4 := i4.alloc (.cells #[.string ⟨#[47]⟩] 9)
  have i5 := i5.alloc (.cells #[.string ⟨#[47]⟩] 9)
  rw [← hw6] at i1 i2 i3 i4 i5 i6 ⊢
  clear hw6 l5 z5
  have i7 := Boxed.new w6 3 (.int .i64 0)
  rw [z6] at i7
  obtain ⟨V, hV⟩ : ∃ w7, w7 = w6.alloc (.cells #[.int .i64 0] 3) := ⟨_, rfl⟩
  have zV : V.heap.size = G + 1 + 1 + 1 + 1 + 1 + 1 + 1 := by rw [hV, World.size_alloc, z6]
  have lV : Below G w V := by rw [hV]; exact l6.alloc (by omega) _
  have i1 := i1.alloc (.cells #[.int .i64 0] 3)
  have i2 := i2.alloc (.cells #[.int .i64 0] 3)
  have i3 := i3.alloc (.cells #[.int .i64 0] 3)
  have i4 := i4.alloc (.cells #[.int .i64 0] 3)
  have i5 := i5.alloc (.cells #[.int .i64 0] 3)
  have i6 := i6.alloc (.cells #[.int .i64 0] 3)
  rw [← hV] at i1 i2 i3 i4 i5 i6 i7 ⊢
  clear hV l6 z6
  have hGw : G ≤ w.heap.size := Nat.le_of_eq hG
  have SQ := split_in 2 (by omega) (G + 1 + 1 + 1 + 1) (G + 1 + 1 + 1 + 1 + 1) (G + 1 + 1 + 1 + 1 + 1 + 1) (by omega) (by omega) TR hTs V i5.cell i5.frozen i6.cell i7.cell
  rw [hTl] at SQ
  have hpt : ∀ x, (⟨(partAt T x).toArray⟩ : ByteArray).size ≤ 100000 := fun x => by
    have h := partAt_short T x
    rw [← hTl, blen] at h
    show (partAt T x).toArray.size ≤ _
    rw [List.size_toArray]
    rw [hTl] at h
    omega
  have HPT := Lib.hid hpt
  have I0 : LoopI G w T [] V := ⟨⟨_, i3, World.ownsRow_nil _ _ _ _, trivial⟩, i4, i1, i2, ⟨_, i5⟩, ⟨_, i6⟩, ⟨_, i7⟩, by simp, lV, by omega⟩
  clear i1 i2 i3 i4 i5 i6 i7 lV hpt hTs hTl hG
  obtain ⟨i0, hi, hz0, hz1, hz2⟩ := info_parts uint_info
  refine range_box (by omega) (gf := 58) (lb := #[.pointer (some ⟨G + 1 + 1 + 1 + 1 + 1, 0, none⟩), .pointer (some ⟨G + 1 + 1 + 1 + 1, 0, none⟩), .pointer (some ⟨G + 1 + 1 + 1 + 1 + 1 + 1, 0, none⟩)]) rfl (enters_of Tryd.func58 (by kernel_rfl) rfl) (fun _ => rfl) (fun b hb => by rcases hb with rfl | rfl | rfl <;> omega) (by omega) SQ (LoopI G w T) (LoopX G w T) (loopI_own hGw (by omega)) (loopX_own hGw (by omega)) (fun _ _ u h => loopI_set h u) I0
    (fun x => { tmps := #[.string s, undef, .pointer (some ⟨G, 0, none⟩), .pointer (some ⟨G + 1, 0, none⟩), .pointer (some ⟨G + 1 + 1, 0, none⟩), .pointer (some ⟨G + 1 + 1 + 1, 0, none⟩), .string ⟨(partAt T x).toArray⟩, undef, undef, .string s, .bool false, .string s, .string TR, .func (.func 58) #[] #[.pointer (some ⟨G + 1 + 1 + 1 + 1 + 1, 0, none⟩), .pointer (some ⟨G + 1 + 1 + 1 + 1, 0, none⟩), .pointer (some ⟨G + 1 + 1 + 1 + 1 + 1 + 1, 0, none⟩)], .string ⟨(partAt T x).toArray⟩, undef, undef, undef, undef, undef, undef, undef, undef, undef, undef, undef, undef, undef, undef, undef, undef, undef, undef, undef, undef, undef, undef, undef, undef, undef], defers := [] }) ?assign ?body ?done ?stop
  case assign =>
    intro l x W K hK
    unfold encP
    gi_wp2
    exact hK
  case body =>
    intro l pre x W h
    obtain ⟨v, hv, hrow, _⟩ := h.path
    obtain ⟨A5, c5, rfl⟩ := own_form hrow
    have PS := parseStep_any ⟨(partAt T x).toArray⟩ W (HPT.out x) (HE.out.below h.below (by rw [HG.out]; exact HE.out.lt))
    rw [ba_list] at PS
    have hpl : (pathOf T pre).length ≤ 255 := (pst_says _).1
    have HB := Lib.hid (fun w2 (hb : Below W.heap.size W w2) => h.below.trans (hb.mono (Nat.le_trans hGw h.below.size)))
    have HI := Lib.hid h
    have HV := Lib.hid hv
    have HRW := Lib.hid hrow
    have big := h.big
    clear h hv hrow
    rcases stepE_three (partAt T x) with hE | hE | hE
    · by_cases h5 : (pathOf T pre).length = 255
      · have hacc : accP (pathOf T pre, zOf T pre) (partAt T x) = (pathOf T pre, true) := if_pos (Or.inr h5)
        have gl : (((pathOf T pre).length : Int) == 255) = true := by simp; omega
        have HAC := Lib.hid hacc
        have h3 : stepE (partAt T x) ≠ 3 := by rw [hE]; decide
        have H3 := Lib.hid h3
        rw [hE] at PS
        have PSH := Lib.hid PS
        clear hacc h3 PS hE h5
        gi_wp2_with ((refine ⟨trivial, ?_⟩; gi_at_call 25; refine (CallsIn.inRound l (callsIn_wide.2 PSH.out)).mono ?_; rintro e w2 ⟨rfl, hb2⟩; have c4 := (boxed_later HV.out hb2).cell; have c5 := (boxed_later HI.out.size hb2).cell; have f5 := (boxed_later HI.out.size hb2).frozen; have HB2 := Lib.hid hb2; clear hb2))
        exact ⟨(keeps_of_below HB2.out _).trans ((KeepsOthers.setCell _ _ _).from _), (stay_later big HB2.out).trans (stay_set (by omega) _), loopI_great HI.out hGw HB2.out H3.out HAC.out⟩
      · have hacc : accP (pathOf T pre, zOf T pre) (partAt T x) = (pathOf T pre ++ [(stepN (partAt T x) : Int)], zOf T pre) := if_neg (fun hc => hc.elim (fun h => h hE) h5)
        have gl : (((pathOf T pre).length : Int) == 255) = false := by simp; omega
        have HAC := Lib.hid hacc
        have h3 : stepE (partAt T x) ≠ 3 := by rw [hE]; decide
        have H3 := Lib.hid h3
        rw [hE] at PS
        obtain ⟨nn, hnn⟩ : ∃ nn, nn = stepN (partAt T x) := ⟨_, rfl⟩
        rw [← hnn] at PS HAC
        have PSH := Lib.hid PS
        obtain ⟨m, hm⟩ : ∃ m, m = (pathOf T pre).length := ⟨_, rfl⟩
        have hgs : G ≤ W.heap.size := by omega
        have HM := Lib.hid hm
        clear hacc h3 PS hE h5 hnn
        rw [← hm] at gl hpl
        rw [← hm] at HV HRW
        clear hm
        gi_wp2_with (first | (refine ⟨trivial, ?_⟩; gi_at_call 25; refine (CallsIn.inRound l (callsIn_wide.2 PSH.out)).mono ?_; rintro e w2 ⟨rfl, hb2⟩; have c4 := (boxed_later HV.out hb2).cell; have HB2 := Lib.hid hb2; have hgs2 : G ≤ w2.heap.size := Nat.le_trans hgs hb2.size; clear hb2) | (gi_at_builtin; refine wpListIn_append_own _ rfl _ _ 41 rfl G 27 i0 (.int .u32 0) 1 4 Tryd.underlying41 hi hz0 hz1 hz2 rfl (by decide) _ _ _ rfl ((row_later HRW.out HB2.out).alloc _) ⟨w2.heap.size, 0, none⟩ 1 1 [.int .u32 (nn : Int)] rfl rfl (cell_one_new _ _ _) (by simp [Value.oneCell']) (by unfold maxLen; omega) (by omega) (by rw [World.size_alloc]; omega) ?_; intro v' w1 hown' hgrow _; obtain ⟨g', cap', rfl⟩ := ownsRow_succ hown'; have b4 := ((boxed_later HV.out HB2.out).alloc (.cells #[.int .u32 (nn : Int)] 27)).kept hgrow ((boxed_later HV.out HB2.out).not_row (by decide) (row_later HRW.out HB2.out)); have hc1 := b4.cell; have hf1 := b4.frozen; have HOWN := Lib.hid hown'; have HGR := Lib.hid hgrow; clear hown' hgrow b4))
        rw [zV]
        have q1 := boxed_later HV.out HB2.out
        have q2 := row_later HRW.out HB2.out
        have q3 := HOWN.out
        rw [HM.out] at q1 q2 q3
        have fin := loopI_more HI.out hGw HB2.out H3.out HAC.out q1 q2 q3 (by rw [← HM.out]; exact HGR.out)
        rw [← HM.out] at fin
        exact fin
    · have hacc : accP (pathOf T pre, zOf T pre) (partAt T x) = (pathOf T pre, true) := if_pos (Or.inl (by rw [hE]; decide))
      have HAC := Lib.hid hacc
      have h3 : stepE (partAt T x) ≠ 3 := by rw [hE]; decide
      have H3 := Lib.hid h3
      rw [hE] at PS
      have PSH := Lib.hid PS
      clear hacc h3 PS hE
      gi_wp2_with ((refine ⟨trivial, ?_⟩; gi_at_call 25; refine (CallsIn.inRound l (callsIn_wide.2 PSH.out)).mono ?_; rintro e w2 ⟨rfl, hb2⟩; have c5 := (boxed_later HI.out.size hb2).cell; have f5 := (boxed_later HI.out.size hb2).frozen; have HB2 := Lib.hid hb2; clear hb2))
      exact ⟨(keeps_of_below HB2.out _).trans ((KeepsOthers.setCell _ _ _).from _), (stay_later big HB2.out).trans (stay_set (by omega) _), loopI_great HI.out hGw HB2.out H3.out HAC.out⟩
    · have H3 := Lib.hid hE
      rw [hE] at PS
      have PSH := Lib.hid PS
      clear PS hE
      gi_wp2_with ((refine ⟨trivial, ?_⟩; gi_at_call 25; refine (CallsIn.inRound l (callsIn_wide.2 PSH.out)).mono ?_; rintro e w2 ⟨rfl, hb2⟩; have c2 := (boxed_later HI.out.r2 hb2).cell; have f2 := (boxed_later HI.out.r2 hb2).frozen; have c3 := ((boxed_later HI.out.r3 hb2).other (B' := G) (by omega) (.slice none 0 0)).cell; have f3 := ((boxed_later HI.out.r3 hb2).other (B' := G) (by omega) (.slice none 0 0)).frozen; have HB2 := Lib.hid hb2; clear hb2))
      refine ⟨((keeps_of_below HB2.out _).trans ((KeepsOthers.setCell _ _ _).from _)).trans ((KeepsOthers.setCell _ _ _).from _), ⟨?_, ?_, ⟨x, by simp, H3.out⟩, ?_⟩⟩
      · exact ((boxed_later HI.out.r2 HB2.out).set _).other (by omega) _
      · exact ((boxed_later HI.out.r3 HB2.out).other (by omega) _).set _
      · exact ((HB.out _ HB2.out).setCell (p := ⟨G, 0, none⟩) (Nat.le_refl _) _).setCell (p := ⟨G + 1, 0, none⟩) (by show G ≤ G + 1; omega) _
  case done =>
    rintro D ys W hD rfl h hK
    obtain ⟨v, hv, hrow, _⟩ := h.path
    obtain ⟨A5, c5, rfl⟩ := own_form hrow
    have hp := hv.cell
    have hzc := h.size.cell
    have hr2 := h.r2.cell
    have hr2f := h.r2.frozen
    have hr3 := h.r3.cell
    have hr3f := h.r3.frozen
    have hall : ∀ q ∈ partsOf T, stepE q ≠ 3 := fun q hq => by
      rw [← parts_all T] at hq
      obtain ⟨k, hk, rfl⟩ := List.mem_map.1 hq
      exact h.ok k hk
    have hout := outR_pst hall
    have e1 : pathOf T (List.range (partsOf T).length) = (pst (partsOf T)).1 := by unfold pathOf; rw [parts_all]
    have e2 : zOf T (List.range (partsOf T).length) = (pst (partsOf T)).2 := by unfold zOf; rw [parts_all]
    have hbz : G ≤ W.heap.size := Nat.le_trans hGw h.below.size
    have k1 : ∀ u, (W.setCell ⟨G, 0, none⟩ u).cell? ⟨G + 1, 0, none⟩ = some (.int .i64 0) := fun u => (h.r3.other (by omega) u).cell
    have k1f : ∀ u, (W.setCell ⟨G, 0, none⟩ u).frozen? ⟨G + 1, 0, none⟩ = false := fun u => (h.r3.other (by omega) u).frozen
    rw [e2] at hzc
    cases hz : (pst (partsOf T)).2 with
    | true =>
      rw [hz] at hzc hout
      have PD := Lib.hid (show parseP s.data.toList = ([], 2) by rw [HRT.out, hout]; rfl)
      have hzc2 : W.cell? ⟨G + 1 + 1 + 1, 0, none⟩ = some (.int .i64 2) := hzc
      have hz2 : ∀ u, (W.setCell ⟨G, 0, none⟩ u).cell? ⟨G + 1 + 1 + 1, 0, none⟩ = some (.int .i64 2) := fun u => by
        have hb := (h.size.other (by omega) u : Boxed (W.setCell ⟨G, 0, none⟩ u) (G + 1 + 1 + 1) _ _).cell
        rw [e2, hz] at hb
        exact hb
      clear hzc hout hz e1 e2 hall
      gi_wp2
      gi_region
      have eW : ((W.setCell ⟨G, 0, none⟩ (.slice none 0 0)).setCell ⟨G + 1, 0, none⟩ (.int .i64 2)).drew = (W.drew.setCell ⟨G, 0, none⟩ (.slice none 0 0)).setCell ⟨G + 1, 0, none⟩ (.int .i64 2) := rfl
      gi_wp2
      rw [eW]
      obtain ⟨f1, f2, f3, f4, f5⟩ := fin_at (loopI_drew h) hGw (.slice none 0 0) (.int .i64 2) D (by omega) hK
      refine ⟨by simp, .inl ⟨_, _, rfl, run_takeDeferred f1, ?_⟩⟩
      refine ⟨.tuple #[.slice none 0 0, .int .i64 2], ?_, .slice none 0 0, by rw [PD.out], by rw [PD.out]; exact World.ownsRow_nil _ _ _ _, by rw [← HG.out]; exact f5⟩
      have g2 : (((W.setCell ⟨G, 0, none⟩ (.slice none 0 0)).setCell ⟨G + 1, 0, none⟩ (.int .i64 2)).drew.putObj D (.deferred none)).cell? ⟨G, 0, none⟩ = some (.slice none 0 0) := f2
      have g3 : (((W.setCell ⟨G, 0, none⟩ (.slice none 0 0)).setCell ⟨G + 1, 0, none⟩ (.int .i64 2)).drew.putObj D (.deferred none)).cell? ⟨G + 1, 0, none⟩ = some (.int .i64 2) := f3
      simp [results, Tryd.f12, go_sem, g2, g3]
    | false =>
      rw [hz] at hzc hout
      have PD := Lib.hid (show parseP s.data.toList = (pathOf T (List.range (partsOf T).length), 0) by rw [HRT.out, hout, e1]; rfl)
      have hzc2 : W.cell? ⟨G + 1 + 1 + 1, 0, none⟩ = some (.int .i64 0) := hzc
      clear hzc hout hz e1 e2 hall
      gi_wp2
      obtain ⟨f1, f2, f3, f4, f5⟩ := fin_at h hGw (.slice A5 (pathOf T (List.range (partsOf T).length)).length c5) (.int .i64 0) D (by omega) hK
      refine ⟨by simp, .inl ⟨_, _, rfl, run_takeDeferred f1, ?_⟩⟩
      refine ⟨.tuple #[.slice A5 (pathOf T (List.range (partsOf T).length)).length c5, .int .i64 0], ?_, .slice A5 (pathOf T (List.range (partsOf T).length)).length c5, by rw [PD.out], by rw [PD.out, ← HG.out]; exact f4 _ _ _ hrow, by rw [← HG.out]; exact f5⟩
      simp [results, Tryd.f12, go_sem, f2, f3]
  case stop =>
    rintro D pre W hD ⟨n, hn, rfl⟩ h hK
    have hr2 := h.r2.cell
    have hr3 := h.r3.cell
    obtain ⟨k, hk, hbad⟩ := h.bad
    have PD : parseP s.data.toList = ([], 3) := by
      rw [HRT.out]
      exact outR_bad (partAt_mem (by rw [List.mem_range] at hk; omega)) hbad
    gi_wp2
    refine ⟨by simp, .inl ⟨_, _, rfl, run_takeDeferred hK, ?_⟩⟩
    have c2 := cell_kept hr2 (grownBy_putObj' _ D (.deferred none)) (fun r e => by cases e; exact ⟨_, hK, rfl⟩)
    have c3 := cell_kept hr3 (grownBy_putObj' _ D (.deferred none)) (fun r e => by cases e; exact ⟨_, hK, rfl⟩)
    refine ⟨.tuple #[.slice none 0 0, .int .i64 3], ?_, .slice none 0 0, by rw [PD], by rw [PD]; exact World.ownsRow_nil _ _ _ _, by rw [← HG.out]; exact h.below.grown (grownBy_putObj' W D (.deferred none)) (Nat.le_trans hGw h.below.size) (fun k e => by cases e; omega)⟩
    simp [results, Tryd.f12, go_sem, c2, c3]

set_option maxRecDepth 100000 in
set_option maxHeartbeats 1600000 in
theorem parse_any (s : ByteArray) (w : World) (hs : s.size ≤ 100000) (he : ErrOk w) :
    Calls Tryd.prog 12 #[.string s] w fun e w' => ∃ v, e = .returned (.tuple #[v, .int .i64 (parseP s.data.toList).2]) ∧ w'.ownsRow w.heap.size 27 1 v (parseP s.data.toList).1.length ((parseP s.data.toList).1.map (Value.int .u32)) ∧ Below w.heap.size w w' := by
  by_cases hm : s.data.toList = [109]
  · have PD : parseP s.data.toList = ([], 0) := by unfold parseP; rw [if_pos hm]
    have hms : (s.toList == [109]) = true := by rw [ByteArray.toList_eq, hm]; rfl
    rw [PD]
    clear hm PD he
    go_enter Tryd.func12, Tryd.ntmps12
    go_wp2_with fail
    refine bodyPost_ret (v := .tuple #[.slice none 0 0, .int .i64 0]) (by simp [results, Tryd.results12, go_sem]) rfl ⟨_, rfl, World.ownsRow_nil _ _ _ _, ((Below.refl _ w).alloc (Nat.le_refl _) _).alloc (by simp) _⟩
  · exact callsIn_wide.1 (parse_in s hs hm w he)
end Go.Proofs.YtfkpdbmgiefnfaaDoor.Hk
