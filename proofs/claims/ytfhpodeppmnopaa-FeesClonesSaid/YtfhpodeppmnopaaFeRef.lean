/-
  The reference's book in memory: counts by value, those that wait as a row of structs; append to it. Conditions: names are of the two kinds that the laws use.
-/
import Derived.Test.YtfhpodeppmnopaaFeName
import Derived.Test.YtfhpodeppmnopaaFeEst
namespace Go.Proofs.Ytfhpodeppmnopaa
open Go.RowKit

/-- The cells of one that waits. -/
def wtC (c : Nat) (e : Ent) : List Value := (nmI c e.id).map (Value.int .u8) ++ [.int .i64 (e.bk : Int), .int .i64 e.ht]
theorem wtC_length (c : Nat) (e : Ent) : (wtC c e).length = 34 := rfl
theorem wtC_name {c : Nat} {e : Ent} {j : Nat} {v : Value} (h : ((nmI c e.id).map (Value.int .u8))[j]? = some v) : (wtC c e)[j]? = some v := by
  unfold wtC
  rw [List.getElem?_append_left (List.getElem?_eq_some_iff.1 h).1]
  exact h
theorem flat_at {α : Type} (f : α → List Value) (n : Nat) (hf : ∀ e, (f e).length = n) : ∀ (W : List α) (i : Nat) (e : α), W[i]? = some e → ∀ j v, (f e)[j]? = some v → (W.flatMap f)[i * n + j]? = some v
  | [], i, e, h, _, _, _ => by simp at h
  | a :: W, 0, e, h, j, v, hv => by
    obtain rfl : a = e := by simpa using h
    rw [List.flatMap_cons, Nat.zero_mul, Nat.zero_add, List.getElem?_append_left (List.getElem?_eq_some_iff.1 hv).1]
    exact hv
  | a :: W, i + 1, e, h, j, v, hv => by
    have h' : W[i]? = some e := by simpa using h
    have ih := flat_at f n hf W i e h' j v hv
    rw [List.flatMap_cons, List.getElem?_append_right (by rw [hf, Nat.add_mul]; omega), hf, show (i + 1) * n + j - n = i * n + j by rw [Nat.add_mul]; omega]
    exact ih
theorem flat_length {α : Type} (f : α → List Value) (n : Nat) (hf : ∀ e, (f e).length = n) : ∀ (W : List α), (W.flatMap f).length = W.length * n
  | [] => by simp
  | a :: W => by rw [List.flatMap_cons, List.length_append, hf, flat_length f n hf W, List.length_cons, Nat.add_mul]; omega

/-- Those that wait, in a row of their own. -/
def WtS (w : World) (c : Nat) (v : Value) (W : List Ent) : Prop := w.ownsRow 0 41 34 v W.length (W.flatMap (wtC c))
theorem WtS.nil (w : World) (c : Nat) : WtS w c (.slice none 0 0) [] := World.ownsRow_nil _ _ _ _
theorem WtS.form {w : World} {c : Nat} {v : Value} {W : List Ent} (h : WtS w c v W) : ∃ A cap, v = .slice A W.length cap := own_form h
theorem WtS.turns {S : Nat → Prop} {w w' : World} {c : Nat} {v : Value} {W : List Ent} (h : WtS w c v W) (ht : Turns S w w') (hS : ∀ k, v.ownBlock = some k → ¬ S k) : WtS w' c v W := own_turns h ht hS
theorem WtS.below {w w' : World} {c : Nat} {v : Value} {W : List Ent} (h : WtS w c v W) (hb : Below w.heap.size w w') : WtS w' c v W := h.turns (S := fun _ => False) (Turns.of_below hb) (fun _ _ q => q)
theorem WtS.drew {w : World} {c : Nat} {v : Value} {W : List Ent} (h : WtS w c v W) : WtS w.drew c v W := h
/-- Not a book's block, and not a map's. -/
theorem WtS.apart {w : World} {c d g : Nat} {v : Value} {W : List Ent} {m : Option Nat} {S : Bs} (h : WtS w c v W) (hb : BookAt w d g m S) : ∀ k, v.ownBlock = some k → ¬ (k = g ∨ m = some k) := by
  intro k hk
  rcases h.2 with ⟨rfl, _⟩ | ⟨g', cap, cur, rfl, _, hg, _⟩
  · simp [Value.ownBlock] at hk
  · have hk' : g' = k := by simpa [Value.ownBlock] using hk
    subst hk'
    rintro (rfl | rfl)
    · obtain ⟨us, hu, _⟩ := hb.1
      have h1 : w.heap[g']? = _ := hu
      rw [hg] at h1
      injection h1 with h1
      injection h1 with _ h1
      exact absurd h1 (by decide)
    · obtain ⟨es, clock, h1, _⟩ := hb.2
      rw [hg] at h1
      cases h1
theorem WtS.lt {w : World} {c : Nat} {v : Value} {W : List Ent} (h : WtS w c v W) : ∀ k, v.ownBlock = some k → k < w.heap.size := by
  intro k hk
  rcases h.2 with ⟨rfl, _⟩ | ⟨g', cap, cur, rfl, _, hg, _⟩
  · simp [Value.ownBlock] at hk
  · have hk' : g' = k := by simpa [Value.ownBlock] using hk
    subst hk'
    exact (Array.getElem?_eq_some_iff.1 hg).1
theorem WtS.at {w : World} {c : Nat} {v : Value} {W : List Ent} (h : WtS w c v W) {i : Nat} {e : Ent} (hi : W[i]? = some e) :
    ∃ g cap, v = .slice (some ⟨g, 0, none⟩) W.length cap ∧ W.length ≤ cap ∧ cap ≤ maxLen ∧ g < w.heap.size ∧ ∀ j x, (wtC c e)[j]? = some x → w.cell? ⟨g, i * 34 + j, none⟩ = some x := by
  have hil := (List.getElem?_eq_some_iff.1 hi).1
  rcases id h.2 with ⟨_, h0⟩ | ⟨g, cap, cur, rfl, _, hg, hnc, hcm, _, _⟩
  · omega
  · refine ⟨g, cap, rfl, hnc, hcm, (Array.getElem?_eq_some_iff.1 hg).1, fun j x hx => ?_⟩
    have h1 := World.ownsRow.cells (g := g) h rfl (i * 34 + j) x (flat_at (wtC c) 34 (wtC_length c) W i e hi j x hx)
    have hadd : (⟨g, 0, none⟩ : Addr).add (i * 34 + j) = ⟨g, 0 + (i * 34 + j), none⟩ := by unfold Addr.add; split <;> simp_all
    rw [hadd, Nat.zero_add] at h1
    exact h1

/-- The counts of the reference's book. -/
structure RCnt (us : List Value) (A : Nat → Int) (I : Nat → Nat → Int) : Prop where
  len : us.length = 313
  all : ∀ k, k < 24 → us[k]? = some (.int .i64 (A k))
  wi : ∀ k t, k < 24 → t < 12 → us[24 + k * 12 + t]? = some (.int .i64 (I k t))
theorem RCnt.setA {us : List Value} {A : Nat → Int} {I : Nat → Nat → Int} (h : RCnt us A I) {k : Nat} (hk : k < 24) (x : Int) : RCnt (us.set k (.int .i64 x)) (fun j => if j = k then x else A j) I := by
  refine ⟨by rw [List.length_set]; exact h.len, fun j hj => ?_, fun j t hj ht => ?_⟩
  · rw [List.getElem?_set]
    by_cases e : j = k
    · subst e
      rw [if_pos rfl, if_pos (by rw [h.len]; omega), if_pos rfl]
    · rw [if_neg (by omega), if_neg e]
      exact h.all j hj
  · rw [List.getElem?_set, if_neg (by omega)]
    exact h.wi j t hj ht
theorem RCnt.setI {us : List Value} {A : Nat → Int} {I : Nat → Nat → Int} (h : RCnt us A I) {k s : Nat} (hk : k < 24) (hs : s < 12) (x : Int) : RCnt (us.set (24 + k * 12 + s) (.int .i64 x)) A (fun j t => if j = k ∧ t = s then x else I j t) := by
  refine ⟨by rw [List.length_set]; exact h.len, fun j hj => ?_, fun j t hj ht => ?_⟩
  · rw [List.getElem?_set, if_neg (by omega)]
    exact h.all j hj
  · rw [List.getElem?_set]
    by_cases e : j = k ∧ t = s
    · obtain ⟨rfl, rfl⟩ := e
      rw [if_pos rfl, if_pos (by rw [h.len]; omega), if_pos ⟨rfl, rfl⟩]
    · rw [if_neg (by omega), if_neg e]
      exact h.wi j t hj ht
theorem RCnt.setW {us : List Value} {A : Nat → Int} {I : Nat → Nat → Int} (h : RCnt us A I) (v : Value) : RCnt (us.set 312 v) A I :=
  ⟨by rw [List.length_set]; exact h.len, fun j hj => by rw [List.getElem?_set, if_neg (by omega)]; exact h.all j hj, fun j t hj ht => by rw [List.getElem?_set, if_neg (by omega)]; exact h.wi j t hj ht⟩
theorem RCnt.congr {us : List Value} {A A' : Nat → Int} {I I' : Nat → Nat → Int} (h : RCnt us A I) (hA : ∀ k, k < 24 → A k = A' k) (hI : ∀ k t, k < 24 → t < 12 → I k t = I' k t) : RCnt us A' I' :=
  ⟨h.len, fun k hk => by rw [← hA k hk]; exact h.all k hk, fun k t hk ht => by rw [← hI k t hk ht]; exact h.wi k t hk ht⟩
theorem RCnt.one {us : List Value} {A : Nat → Int} {I : Nat → Nat → Int} (h : RCnt us A I) {O : Option Addr} {n cap : Nat} (hs : us[312]? = some (.slice O n cap)) : us.toArray.all (·.oneCell') = true :=
  Array.all_eq_true_iff_forall_mem.2 (fun v hv => by
    obtain ⟨i, hi⟩ := List.mem_iff_getElem?.1 (show v ∈ us by simpa using hv)
    have hil := (List.getElem?_eq_some_iff.1 hi).1
    rw [h.len] at hil
    by_cases h1 : i < 24
    · rw [h.all i h1] at hi
      injection hi with hi
      subst hi
      rfl
    · by_cases h2 : i < 312
      · have := h.wi ((i - 24) / 12) ((i - 24) % 12) (by omega) (by omega)
        rw [show 24 + (i - 24) / 12 * 12 + (i - 24) % 12 = i by omega, hi] at this
        injection this with this
        subst this
        rfl
      · rw [show i = 312 by omega, hs] at hi
        injection hi with hi
        subst hi
        rfl)
/-- The reference's book, as a value. -/
def RefV (w : World) (c : Nat) (us : List Value) (S : Bs) : Prop := RCnt us S.A S.I ∧ ∃ sl, us[312]? = some sl ∧ WtS w c sl S.W
theorem RefV.turns {P : Nat → Prop} {w w' : World} {c : Nat} {us : List Value} {S : Bs} (h : RefV w c us S) (ht : Turns P w w') (hP : ∀ sl, us[312]? = some sl → ∀ k, sl.ownBlock = some k → ¬ P k) : RefV w' c us S := by
  obtain ⟨h1, sl, h2, h3⟩ := h
  exact ⟨h1, sl, h2, h3.turns ht (hP sl h2)⟩
theorem RefV.below {w w' : World} {c : Nat} {us : List Value} {S : Bs} (h : RefV w c us S) (hb : Below w.heap.size w w') : RefV w' c us S := by
  obtain ⟨h1, sl, h2, h3⟩ := h
  exact ⟨h1, sl, h2, h3.below hb⟩
theorem RefV.drew {w : World} {c : Nat} {us : List Value} {S : Bs} (h : RefV w c us S) : RefV w.drew c us S := h
theorem RefV.one {w : World} {c : Nat} {us : List Value} {S : Bs} (h : RefV w c us S) : us.toArray.all (·.oneCell') = true := by
  obtain ⟨h1, sl, h2, h3⟩ := h
  obtain ⟨A, cap, rfl⟩ := h3.form
  exact h1.one h2
theorem info_refbook : (Try.prog.info? 30).map (·.size) = some 313 := by kernel_rfl
theorem RefV.size {w : World} {c : Nat} {us : List Value} {S : Bs} (h : RefV w c us S) : (Try.prog.info? 30).map (·.size) = some us.length := by rw [h.1.len]; exact info_refbook

def zRef : List Value := List.replicate 312 (.int .i64 0) ++ [.slice none 0 0]
set_option maxRecDepth 100000 in
theorem zero_ref (W : World) : (zeroValue 30).run Try.prog W = .ok (.agg zRef.toArray) W := by kernel_rfl
set_option maxRecDepth 100000 in
theorem build_ref (W : World) : (Instr.build 30 #[]).run Try.prog W = .ok (.agg zRef.toArray) W := by kernel_rfl
theorem zRef_len : zRef.length = 313 := by unfold zRef; rw [List.length_append, List.length_replicate]; rfl
theorem zRef_map : zRef[312]? = some (.slice none 0 0) := by unfold zRef; rw [List.getElem?_append_right (by rw [List.length_replicate]; omega), List.length_replicate]; rfl
theorem zRef_refV (w : World) (c : Nat) : RefV w c zRef bs0 := by
  refine ⟨⟨zRef_len, fun k hk => ?_, fun k t hk ht => ?_⟩, _, zRef_map, WtS.nil w c⟩
  · unfold zRef
    rw [List.getElem?_append_left (by rw [List.length_replicate]; omega), List.getElem?_replicate, if_pos (by omega)]
    rfl
  · unfold zRef
    rw [List.getElem?_append_left (by rw [List.length_replicate]; omega), List.getElem?_replicate, if_pos (by omega)]
    rfl

/-- Names compared. -/
theorem eq_name (c a b : Nat) (hc : c < 256) (ha : a < 256) (hb : b < 256) (w : World) : (Op.equalIn 10000 39 (nmV c a) (nmV c b)).run Try.prog w = .ok (decide (a = b)) w := by
  have key : ∀ i, i < 256 → nmV c i = .agg (((UInt8.ofNat i :: UInt8.ofNat c :: List.replicate 30 0).map Extern.Stop.cell).toArray) := fun i hi => by
    unfold nmV nmI
    congr 2
    rw [List.map_cons, List.map_cons, List.map_cons, List.map_cons]
    congr 1
    · show Value.int .u8 (i : Int) = Value.int .u8 ((UInt8.ofNat i).toNat : Int)
      rw [UInt8.toNat_ofNat', Nat.mod_eq_of_lt (by omega)]
    · congr 1
      show Value.int .u8 (c : Int) = Value.int .u8 ((UInt8.ofNat c).toNat : Int)
      rw [UInt8.toNat_ofNat', Nat.mod_eq_of_lt (by omega)]
  rw [key a ha, key b hb]
  have h := run_equalIn_bytes (P := Try.prog) w 9998 39 5 32 Try.underlying39 Try.underlying5 (fun w => by kernel_rfl) (UInt8.ofNat a :: UInt8.ofNat c :: List.replicate 30 0) (UInt8.ofNat b :: UInt8.ofNat c :: List.replicate 30 0) rfl rfl
  refine Eq.trans h ?_
  congr 1
  rw [Bool.eq_iff_iff]
  simp only [beq_iff_eq, decide_eq_true_eq, List.cons.injEq, and_true]
  constructor
  · intro e
    have e2 := congrArg UInt8.toNat e
    rw [UInt8.toNat_ofNat', UInt8.toNat_ofNat', Nat.mod_eq_of_lt (by omega), Nat.mod_eq_of_lt (by omega)] at e2
    exact e2
  · rintro rfl
    rfl

theorem info_wait : (Try.prog.info? 41).map (fun i => (i.zero.map (fun z => z.cells.size), i.size, i.bytes)) = some (some 34, 34, 48) := by kernel_rfl
/-- append of ones that wait. -/
theorem run_append_wt (w : World) (ty : TypeId) (v : Value) (n : Nat) (xs : List Value) (hown : w.ownsRow 0 41 34 v n xs) (u : Value) (m : Nat) (news : List Value)
    (hu : (u = .slice none 0 0 ∧ m = 0 ∧ news = []) ∨ ∃ g o c, u = .slice (some ⟨g, o, none⟩) m c ∧ news.length = m * 34 ∧ (∀ j x, news[j]? = some x → w.cell? ⟨g, o + j, none⟩ = some x) ∧ ∀ x ∈ news, x.oneCell' = true)
    (hn : n + m ≤ 1000000) :
    ∃ v' w', (Builtin.append_ #[28, 28] ty #[v, u]).run Try.prog w = .ok v' w' ∧ w'.ownsRow 0 41 34 v' (n + m) (xs ++ news) ∧ w.grownBy w' v.ownBlock ∧ (v'.ownBlock = v.ownBlock ∨ v'.ownBlock = some w.heap.size) := by
  have hinfo := info_wait
  cases hi : Try.prog.info? 41 with
  | none => rw [hi] at hinfo; cases hinfo
  | some i =>
    rw [hi] at hinfo
    simp only [Option.map_some, Option.some.injEq, Prod.mk.injEq] at hinfo
    obtain ⟨hz, hsz, hby⟩ := hinfo
    cases hzv : i.zero with
    | none => rw [hzv] at hz; cases hz
    | some z =>
      rw [hzv] at hz
      have hz' : z.cells.size = 34 := by simpa using hz
      rcases hu with ⟨rfl, rfl, rfl⟩ | ⟨g, o, c, rfl, hl, hcell, h1⟩
      · refine ⟨v, w, ?_, by simpa using hown, ⟨rfl, rfl, rfl, Nat.le_refl _, fun _ _ _ => rfl⟩, .inl rfl⟩
        rcases hown.2 with ⟨rfl, rfl⟩ | ⟨g, cap, cur, rfl, _, _, hnc, _⟩
        · simp [Builtin.append_, run_underlying Try.underlying28, sizeOf, typeInfo, hi, Builtin.lenOf, Builtin.firstCells]
        · simp [Builtin.append_, run_underlying Try.underlying28, sizeOf, typeInfo, hi, Builtin.lenOf, Builtin.firstCells, hnc, storeCells]
      · obtain ⟨v', w', hrun, h2, h3, _, h5⟩ := run_append_own_at (P := Try.prog) w 0 28 ty 41 i z 34 48 Try.underlying28 hi hzv hsz hby hz' (by decide) v n xs hown ⟨g, o, none⟩ m c news hl
          (fun j x hx => by rw [Addr.add_mid]; exact hcell j x hx) h1 (by unfold maxLen; omega) (by omega) (Nat.zero_le _)
        exact ⟨v', w', hrun, h2, h3, h5⟩
theorem empty_waits (W : World) : (Instr.buildSlice 28 0 #[]).run Try.prog W = .ok (.slice (some ⟨W.heap.size, 0, none⟩) 0 0) (W.alloc (.cells #[] 41)) := by kernel_rfl
theorem own_empty (w : World) : (w.alloc (.cells #[] 41)).ownsRow 0 41 34 (.slice (some ⟨w.heap.size, 0, none⟩) 0 0) 0 [] :=
  ⟨rfl, .inr ⟨w.heap.size, 0, #[], rfl, Nat.zero_le _, heap_alloc_new w _, Nat.le_refl _, Nat.zero_le _, rfl, rfl⟩⟩
theorem build_wait (c : Nat) (e : Ent) (W : World) : (Instr.build 41 #[(0, nmV c e.id), (1, .int .i64 (e.bk : Int)), (2, .int .i64 e.ht)]).run Try.prog W = .ok (.agg (wtC c e).toArray) W := run_build W _ _ _ (by kernel_rfl)
theorem one_wait (c : Nat) (e : Ent) (W : World) : (Instr.buildSlice 28 1 #[(0, .agg (wtC c e).toArray)]).run Try.prog W = .ok (.slice (some ⟨W.heap.size, 0, none⟩) 1 1) (W.alloc (.cells (wtC c e).toArray 41)) := by kernel_rfl
end Go.Proofs.Ytfhpodeppmnopaa
