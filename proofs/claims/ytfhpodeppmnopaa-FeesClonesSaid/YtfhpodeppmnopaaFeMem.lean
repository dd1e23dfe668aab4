/-
  A book in memory: its counts, and the map of those that wait; what a look-up, a store, a delete of it answer. Conditions: names are of the two kinds that the laws use.
-/
import Derived.Test.YtfhpodeppmnopaaFePure
import Derived.Test.YtfhpodeppmnopaaVRow
import Derived.Test.YtfhpodeppmnopaaIr
import Derived.Maps.Keyed
import Derived.DeepKeys4
import Derived.ChangeMaps5
namespace Go.Proofs.Ytfhpodeppmnopaa
open Go.RowKit Go.Maps Go.ChangeMaps

/-- A name: its byte, the kind's byte, zeros. -/
def nmI (c id : Nat) : List Int := (id : Int) :: (c : Int) :: List.replicate 30 0
def nmV (c id : Nat) : Value := .agg ((nmI c id).map (Value.int .u8)).toArray
def wtV (e : Ent) : Value := .agg #[.int .i64 (e.bk : Int), .int .i64 e.ht]
theorem nmI_length (c id : Nat) : (nmI c id).length = 32 := rfl
theorem nmV_inj {c a b : Nat} (h : nmV c a = nmV c b) : a = b := by
  unfold nmV at h
  injection h with h
  have h2 := congrArg (fun (z : Array Value) => z.toList[0]?) h
  simp [nmI] at h2
  omega

theorem laidOut0 : laidOutB Try.prog = true := by kernel_rfl
theorem row_hash : (45 : TypeId) < Try.prog.types.size := of_decide_eq_true (by kernel_rfl)
theorem wide_hash : (match Try.prog.underlying 45 with | some (.array _ _) | some (.struct _) => true | _ => false) = true := by rw [Try.underlying45]
theorem law_hash : Keyed Try.prog 45 := Keyed.of_law (deep_law_laid laidOut0 (m := 2) (by omega) row_hash (by kernel_rfl) wide_hash)
set_option maxRecDepth 100000 in
theorem key_all : ((List.range 256).all fun id => (keyOf Try.prog 45 (nmV 7 id)).isSome && (keyOf Try.prog 45 (nmV 1 id)).isSome) = true := by kernel_rfl
/-- The kinds of names: 7 in the layer's laws, 1 in the law through the layers. -/
def COk (c : Nat) : Prop := c = 7 ∨ c = 1
theorem key_name {c id : Nat} (hc : COk c) (hid : id < 256) : ∃ kl, keyOf Try.prog 45 (nmV c id) = some kl := by
  have h := List.all_eq_true.1 key_all id (List.mem_range.2 hid)
  rw [Bool.and_eq_true] at h
  rcases hc with rfl | rfl
  · exact Option.isSome_iff_exists.1 h.1
  · exact Option.isSome_iff_exists.1 h.2

/-- The map of those that wait (none: it was never made). -/
def MapAt (w : World) (c : Nat) : Option Nat → List Ent → Prop
  | none, W => W = []
  | some b, W => ∃ es clock, w.heap[b]? = some (.map es clock) ∧ MapKept.Stamped es clock ∧ es.toList.map (fun e => (e.key, e.val)) = W.map (fun e => (nmV c e.id, wtV e))
def Wids (W : List Ent) : Prop := ∀ e ∈ W, e.id < 256

section
variable {w w' : World} {c : Nat} {m : Option Nat} {W : List Ent}
theorem MapAt.keep (h : MapAt w c m W) (hk : ∀ b, m = some b → w'.heap[b]? = w.heap[b]?) : MapAt w' c m W := by
  cases m with
  | none => exact h
  | some b =>
    obtain ⟨es, clock, hb, h2⟩ := h
    exact ⟨es, clock, (hk b rfl).trans hb, h2⟩
theorem MapAt.lt (h : MapAt w c m W) {b : Nat} (hm : m = some b) : b < w.heap.size := by
  subst hm
  obtain ⟨es, clock, hb, _⟩ := h
  exact (Array.getElem?_eq_some_iff.1 hb).1
theorem MapAt.turns {S : Nat → Prop} (h : MapAt w c m W) (ht : Turns S w w') (hS : ∀ b, m = some b → ¬ S b) : MapAt w' c m W := h.keep fun b hb => ht.block b (h.lt hb) (hS b hb)
theorem MapAt.drew (h : MapAt w c m W) : MapAt w.drew c m W := h.keep fun _ _ => rfl

theorem entries_at {c : Nat} {es : List MapEntry} {W : List Ent} (h : es.map (fun e => (e.key, e.val)) = W.map (fun e => (nmV c e.id, wtV e))) {i : Nat} {x : MapEntry} (hx : es[i]? = some x) : ∃ e, W[i]? = some e ∧ x.key = nmV c e.id ∧ x.val = wtV e := by
  have h2 := congrArg (·[i]?) h
  simp only [List.getElem?_map, hx, Option.map_some] at h2
  cases he : W[i]? with
  | none => rw [he] at h2; cases h2
  | some e =>
    rw [he] at h2
    simp only [Option.map_some, Option.some.injEq, Prod.mk.injEq] at h2
    exact ⟨e, rfl, h2.1, h2.2⟩
theorem entries_back {c : Nat} {es : List MapEntry} {W : List Ent} (h : es.map (fun e => (e.key, e.val)) = W.map (fun e => (nmV c e.id, wtV e))) {i : Nat} {e : Ent} (hx : W[i]? = some e) : ∃ x, es[i]? = some x ∧ x.key = nmV c e.id ∧ x.val = wtV e := by
  have h2 := congrArg (·[i]?) h
  simp only [List.getElem?_map, hx, Option.map_some] at h2
  cases he : es[i]? with
  | none => rw [he] at h2; cases h2
  | some x =>
    rw [he] at h2
    simp only [Option.map_some, Option.some.injEq, Prod.mk.injEq] at h2
    exact ⟨x, rfl, h2.1, h2.2⟩

/-- What the look for a key answers. -/
theorem find_name (W0 : World) {c id : Nat} (hc : COk c) (hid : id < 256) {es : List MapEntry} {W : List Ent} (hW : Wids W) (hnd : W.Pairwise (fun e e' => e.id ≠ e'.id)) (h : es.map (fun e => (e.key, e.val)) = W.map (fun e => (nmV c e.id, wtV e))) :
    (fIdx W id = none ∧ (Instr.findKey 45 (nmV c id) es).run Try.prog W0 = .ok none W0 ∧ ∀ x ∈ es, x.key ≠ nmV c id) ∨
    ∃ i e x, fIdx W id = some i ∧ W[i]? = some e ∧ es[i]? = some x ∧ x.key = nmV c id ∧ (Instr.findKey 45 (nmV c id) es).run Try.prog W0 = .ok (some (i, wtV e)) W0 := by
  obtain ⟨kl, hkl⟩ := key_name hc hid
  have hkeys : ∀ x ∈ es, ∃ l, keyOf Try.prog 45 x.key = some l := fun x hx => by
    obtain ⟨i, hi⟩ := List.mem_iff_getElem?.1 hx
    obtain ⟨e, he, hk, _⟩ := entries_at h hi
    rw [hk]
    exact key_name hc (hW e (List.mem_of_getElem? he))
  rcases law_hash.find W0 hkl es hkeys with ⟨h1, h2⟩ | ⟨j, x, h1, h2, h3⟩
  · refine .inl ⟨?_, h1, h2⟩
    cases hf : fIdx W id with
    | none => rfl
    | some i =>
      obtain ⟨e, he, hid2, _⟩ := fIdx_some hf
      obtain ⟨x, hx, hk, _⟩ := entries_back h he
      exact absurd (hk.trans (by rw [hid2])) (h2 x (List.mem_of_getElem? hx))
  · refine .inr ?_
    obtain ⟨e, he, hk, hv⟩ := entries_at h h2
    have hide : e.id = id := nmV_inj (hk.symm.trans h3)
    cases hf : fIdx W id with
    | none => exact absurd hide (fIdx_none hf e (List.mem_of_getElem? he))
    | some i =>
      obtain ⟨e', he', hid2, hil, _⟩ := fIdx_some hf
      have hij : i = j := by
        rcases Nat.lt_trichotomy i j with hlt | heq | hgt
        · exact absurd (hid2.trans hide.symm) (List.pairwise_iff_getElem.1 hnd i j hil (List.getElem?_eq_some_iff.1 he).1 hlt |> fun q => by
            rw [(List.getElem?_eq_some_iff.1 he').2, (List.getElem?_eq_some_iff.1 he).2] at q
            exact q)
        · exact heq
        · exact absurd (hide.trans hid2.symm) (List.pairwise_iff_getElem.1 hnd j i (List.getElem?_eq_some_iff.1 he).1 hil hgt |> fun q => by
            rw [(List.getElem?_eq_some_iff.1 he').2, (List.getElem?_eq_some_iff.1 he).2] at q
            exact q)
      subst hij
      exact ⟨i, e, x, rfl, he, h2, h3, by rw [h1, hv]⟩

theorem zero_wait (W0 : World) : (zeroValue 62).run Try.prog W0 = .ok (wtV ⟨0, 0, 0⟩) W0 := by kernel_rfl
theorem map_type : Try.prog.underlying 57 = some (.map 45 62) := Try.underlying57

/-- 'w, ok := m[id]' where it does not wait. -/
theorem MapAt.look_none (h : MapAt w c m W) (hc : COk c) (hW : Wids W) (hnd : W.Pairwise (fun e e' => e.id ≠ e'.id)) {id : Nat} (hid : id < 256) (hf : fIdx W id = none) :
    (Instr.lookup 57 (.map m) (nmV c id) true).run Try.prog w = .ok (.tuple #[wtV ⟨0, 0, 0⟩, .bool false]) w := by
  obtain ⟨kl, hkl⟩ := key_name hc hid
  cases m with
  | none =>
    have hz := zero_wait w
    rcases law_hash.find w hkl [] (by simp) with ⟨h1, _⟩ | ⟨j, x, _, h2, _⟩
    · simp [Instr.lookup, run_underlying map_type, law_hash.check w _ hkl, h1, hz, Result.andThen]
    · simp at h2
  | some b =>
    obtain ⟨es, clock, hb, _, hes⟩ := h
    have hz := zero_wait w
    rcases find_name w hc hid hW hnd hes with ⟨_, h1, _⟩ | ⟨i, e, x, hi, _⟩
    · simp [Instr.lookup, run_underlying map_type, MapKept.run_getObj_map hb, law_hash.check w _ hkl, h1, hz, Result.andThen]
    · rw [hf] at hi
      cases hi
theorem MapAt.look_some (h : MapAt w c m W) (hc : COk c) (hW : Wids W) (hnd : W.Pairwise (fun e e' => e.id ≠ e'.id)) {id i : Nat} {e : Ent} (hid : id < 256) (hf : fIdx W id = some i) (he : W[i]? = some e) :
    (Instr.lookup 57 (.map m) (nmV c id) true).run Try.prog w = .ok (.tuple #[wtV e, .bool true]) w := by
  obtain ⟨kl, hkl⟩ := key_name hc hid
  cases m with
  | none =>
    obtain rfl : W = [] := h
    simp at he
  | some b =>
    obtain ⟨es, clock, hb, _, hes⟩ := h
    rcases find_name w hc hid hW hnd hes with ⟨h0, _⟩ | ⟨i', e', x, hi, he', _, _, h1⟩
    · rw [hf] at h0
      cases h0
    · rw [hf] at hi
      injection hi with hi
      subst hi
      rw [he] at he'
      injection he' with he'
      subst he'
      simp [Instr.lookup, run_underlying map_type, MapKept.run_getObj_map hb, law_hash.check w _ hkl, h1, Result.andThen]
/-- 'm[id] = w' where it does not wait. -/
theorem MapAt.put {b : Nat} (h : MapAt w c (some b) W) (hc : COk c) (hW : Wids W) (hnd : W.Pairwise (fun e e' => e.id ≠ e'.id)) {e : Ent} (hid : e.id < 256) (hf : fIdx W e.id = none) :
    ∃ w', (Instr.mapUpdate 57 (.map (some b)) (nmV c e.id) (wtV e)).run Try.prog w = .ok () w' ∧ MapAt w' c (some b) (W ++ [e]) ∧ Turns (fun i => i = b) w w' := by
  obtain ⟨kl, hkl⟩ := key_name hc hid
  obtain ⟨es, clock, hb, hst, hes⟩ := h
  rcases find_name w hc hid hW hnd hes with ⟨_, h1, h2⟩ | ⟨i, e', x, hi, _⟩
  · refine ⟨setBlock w b (.map (es.push ⟨nmV c e.id, wtV e, clock⟩) (clock + 1)), ?_, ?_, ?_⟩
    · simp [Instr.mapUpdate, run_underlying map_type, MapKept.run_getObj_map hb, law_hash.check w false hkl, h1, MapKept.run_setObj_map _ hb, Result.andThen, setBlock]
    · exact ⟨_, _, heap_setBlock_same hb _, MapKept.stamped_push hst h2, by simp [hes]⟩
    · exact ⟨rfl, rfl, rfl, by simp [setBlock], fun i _ hi => heap_setBlock_other hb _ hi⟩
  · rw [hf] at hi
    cases hi
/-- 'delete(m, id)'. -/
theorem MapAt.del (h : MapAt w c m W) (hc : COk c) (hW : Wids W) (hnd : W.Pairwise (fun e e' => e.id ≠ e'.id)) (ty : TypeId) {id : Nat} (hid : id < 256) :
    ∃ w', (Builtin.delete_ #[57, 45] ty #[.map m, nmV c id]).run Try.prog w = .ok (.tuple #[]) w' ∧ MapAt w' c m (match fIdx W id with | none => W | some i => W.eraseIdx i) ∧ Turns (fun i => m = some i) w w' := by
  obtain ⟨kl, hkl⟩ := key_name hc hid
  cases m with
  | none =>
    obtain rfl : W = [] := h
    exact ⟨w, by simp [Builtin.delete_, run_underlying map_type, law_hash.check w _ hkl, Result.andThen], rfl, Turns.refl _ _⟩
  | some b =>
    obtain ⟨es, clock, hb, hst, hes⟩ := h
    rcases find_name w hc hid hW hnd hes with ⟨h0, h1, _⟩ | ⟨i, e, x, hi, he, hx, _, h1⟩
    · refine ⟨setBlock w b (.map es clock), ?_, ?_, ?_⟩
      · simp [Builtin.delete_, run_underlying map_type, MapKept.run_getObj_map hb, law_hash.check w _ hkl, h1, MapKept.run_setObj_map _ hb, Result.andThen, setBlock]
      · rw [h0]
        exact ⟨_, _, heap_setBlock_same hb _, hst, hes⟩
      · exact ⟨rfl, rfl, rfl, by simp [setBlock], fun i _ hi => heap_setBlock_other hb _ (fun q => hi (by rw [q]))⟩
    · refine ⟨setBlock w b (.map (es.eraseIdxIfInBounds i) clock), ?_, ?_, ?_⟩
      · simp [Builtin.delete_, run_underlying map_type, MapKept.run_getObj_map hb, law_hash.check w _ hkl, h1, MapKept.run_setObj_map _ hb, Result.andThen, setBlock]
      · rw [hi]
        have hjs : i < es.size := by simpa using (List.getElem?_eq_some_iff.1 hx).1
        refine ⟨_, _, heap_setBlock_same hb _, MapKept.stamped_erase hst i, ?_⟩
        unfold Array.eraseIdxIfInBounds
        rw [dif_pos hjs]
        simp only [Array.toList_eraseIdx, map_eraseIdx, hes]
      · exact ⟨rfl, rfl, rfl, by simp [setBlock], fun i _ hi => heap_setBlock_other hb _ (fun q => hi (by rw [q]))⟩
theorem MapAt.size (h : MapAt w c m W) (ty : TypeId) : (Builtin.len_ #[57] ty #[.map m]).run Try.prog w = .ok (.int .i64 (W.length : Int)) w := by
  cases m with
  | none =>
    obtain rfl : W = [] := h
    simp [Builtin.len_, run_underlying map_type, goInt]
  | some b =>
    obtain ⟨es, clock, hb, _, hes⟩ := h
    have hl := congrArg List.length hes
    simp only [List.length_map, Array.length_toList] at hl
    simp [Builtin.len_, run_underlying map_type, MapKept.run_getObj_map hb, Result.andThen, goInt, hl]
end

/-- The cells of the counts. -/
structure Cnt (us : List Value) (A : Nat → Int) (I : Nat → Nat → Int) : Prop where
  len : us.length = 313
  all : ∀ k, k < 24 → us[k * 13]? = some (.int .i64 (A k))
  wi : ∀ k t, k < 24 → t < 12 → us[k * 13 + 1 + t]? = some (.int .i64 (I k t))
theorem Cnt.setA {us : List Value} {A : Nat → Int} {I : Nat → Nat → Int} (h : Cnt us A I) {k : Nat} (hk : k < 24) (x : Int) : Cnt (us.set (k * 13) (.int .i64 x)) (fun j => if j = k then x else A j) I := by
  refine ⟨by rw [List.length_set]; exact h.len, fun j hj => ?_, fun j t hj ht => ?_⟩
  · rw [List.getElem?_set]
    by_cases e : j = k
    · subst e
      rw [if_pos rfl, if_pos (by rw [h.len]; omega), if_pos rfl]
    · rw [if_neg (by omega), if_neg e]
      exact h.all j hj
  · rw [List.getElem?_set, if_neg (by omega)]
    exact h.wi j t hj ht
theorem Cnt.setI {us : List Value} {A : Nat → Int} {I : Nat → Nat → Int} (h : Cnt us A I) {k s : Nat} (hk : k < 24) (hs : s < 12) (x : Int) : Cnt (us.set (k * 13 + 1 + s) (.int .i64 x)) A (fun j t => if j = k ∧ t = s then x else I j t) := by
  refine ⟨by rw [List.length_set]; exact h.len, fun j hj => ?_, fun j t hj ht => ?_⟩
  · rw [List.getElem?_set, if_neg (by omega)]
    exact h.all j hj
  · rw [List.getElem?_set]
    by_cases e : j = k ∧ t = s
    · obtain ⟨rfl, rfl⟩ := e
      rw [if_pos rfl, if_pos (by rw [h.len]; omega), if_pos ⟨rfl, rfl⟩]
    · rw [if_neg (by omega), if_neg e]
      exact h.wi j t hj ht
theorem Cnt.congr {us : List Value} {A A' : Nat → Int} {I I' : Nat → Nat → Int} (h : Cnt us A I) (hA : ∀ k, k < 24 → A k = A' k) (hI : ∀ k t, k < 24 → t < 12 → I k t = I' k t) : Cnt us A' I' :=
  ⟨h.len, fun k hk => by rw [← hA k hk]; exact h.all k hk, fun k t hk ht => by rw [← hI k t hk ht]; exact h.wi k t hk ht⟩

/-- The counts in block g, and the map's place. -/
def CntAt (w : World) (g : Nat) (m : Option Nat) (A : Nat → Int) (I : Nat → Nat → Int) : Prop := ∃ us, VRow w g 59 us ∧ Cnt us A I ∧ us[312]? = some (.map m)
section
variable {w w' : World} {g : Nat} {m : Option Nat} {A A' : Nat → Int} {I I' : Nat → Nat → Int}
theorem CntAt.lt (h : CntAt w g m A I) : g < w.heap.size := by
  obtain ⟨us, h1, _⟩ := h
  exact h1.lt
theorem CntAt.free (h : CntAt w g m A I) (i : Nat) : w.frozen? ⟨g, i, none⟩ = false := by
  obtain ⟨us, h1, _⟩ := h
  exact h1.free i
theorem CntAt.all (h : CntAt w g m A I) {k : Nat} (hk : k < 24) : w.cell? ⟨g, k * 13, none⟩ = some (.int .i64 (A k)) := by
  obtain ⟨us, h1, h2, _⟩ := h
  exact h1.cell (h2.all k hk)
theorem CntAt.wi (h : CntAt w g m A I) {k t : Nat} (hk : k < 24) (ht : t < 12) : w.cell? ⟨g, k * 13 + 1 + t, none⟩ = some (.int .i64 (I k t)) := by
  obtain ⟨us, h1, h2, _⟩ := h
  exact h1.cell (h2.wi k t hk ht)
theorem CntAt.map (h : CntAt w g m A I) : w.cell? ⟨g, 312, none⟩ = some (.map m) := by
  obtain ⟨us, h1, _, h3⟩ := h
  exact h1.cell h3
theorem CntAt.keep (h : CntAt w g m A I) (hk : w'.heap[g]? = w.heap[g]?) : CntAt w' g m A I := by
  obtain ⟨us, h1, h2⟩ := h
  exact ⟨us, hk.trans h1, h2⟩
theorem CntAt.turns {S : Nat → Prop} (h : CntAt w g m A I) (ht : Turns S w w') (hS : ¬ S g) : CntAt w' g m A I := h.keep (ht.block g h.lt hS)
theorem CntAt.drew (h : CntAt w g m A I) : CntAt w.drew g m A I := h
theorem CntAt.setA (h : CntAt w g m A I) {k : Nat} (hk : k < 24) (x : Int) : CntAt (w.setCell ⟨g, k * 13, none⟩ (.int .i64 x)) g m (fun j => if j = k then x else A j) I := by
  obtain ⟨us, h1, h2, h3⟩ := h
  exact ⟨_, h1.set _ _, h2.setA hk x, by rw [List.getElem?_set, if_neg (by omega)]; exact h3⟩
theorem CntAt.setI (h : CntAt w g m A I) {k s : Nat} (hk : k < 24) (hs : s < 12) (x : Int) : CntAt (w.setCell ⟨g, k * 13 + 1 + s, none⟩ (.int .i64 x)) g m A (fun j t => if j = k ∧ t = s then x else I j t) := by
  obtain ⟨us, h1, h2, h3⟩ := h
  exact ⟨_, h1.set _ _, h2.setI hk hs x, by rw [List.getElem?_set, if_neg (by omega)]; exact h3⟩
theorem CntAt.setM (h : CntAt w g m A I) (m' : Option Nat) : CntAt (w.setCell ⟨g, 312, none⟩ (.map m')) g m' A I := by
  obtain ⟨us, h1, h2, h3⟩ := h
  refine ⟨_, h1.set _ _, ⟨by rw [List.length_set]; exact h2.len, fun k hk => ?_, fun k t hk ht => ?_⟩, by rw [List.getElem?_set, if_pos rfl, if_pos (by rw [h2.len]; omega)]⟩
  · rw [List.getElem?_set, if_neg (by omega)]
    exact h2.all k hk
  · rw [List.getElem?_set, if_neg (by omega)]
    exact h2.wi k t hk ht
theorem CntAt.congr (h : CntAt w g m A I) (hA : ∀ k, k < 24 → A k = A' k) (hI : ∀ k t, k < 24 → t < 12 → I k t = I' k t) : CntAt w g m A' I' := by
  obtain ⟨us, h1, h2, h3⟩ := h
  exact ⟨us, h1, h2.congr hA hI, h3⟩
theorem CntAt.not_map (h : CntAt w g m A I) {c : Nat} {W : List Ent} (hm : MapAt w c m W) : m ≠ some g := by
  rintro rfl
  obtain ⟨us, h1, _⟩ := h
  obtain ⟨es, clock, hb, _⟩ := hm
  have h1' : w.heap[g]? = _ := h1
  rw [hb] at h1'
  cases h1'
end
/-- A book. -/
def BookAt (w : World) (c g : Nat) (m : Option Nat) (S : Bs) : Prop := CntAt w g m S.A S.I ∧ MapAt w c m S.W
theorem BookAt.drew {w : World} {c g : Nat} {m : Option Nat} {S : Bs} (h : BookAt w c g m S) : BookAt w.drew c g m S := ⟨h.1.drew, h.2.drew⟩
theorem BookAt.turns {P : Nat → Prop} {w w' : World} {c g : Nat} {m : Option Nat} {S : Bs} (h : BookAt w c g m S) (ht : Turns P w w') (hg : ¬ P g) (hm : ∀ b, m = some b → ¬ P b) : BookAt w' c g m S := ⟨h.1.turns ht hg, h.2.turns ht hm⟩
theorem BookAt.below {w w' : World} {c g : Nat} {m : Option Nat} {S : Bs} (h : BookAt w c g m S) (hb : Below w.heap.size w w') : BookAt w' c g m S := h.turns (S := S) (P := fun _ => False) (Turns.of_below hb) (fun q => q) (fun _ _ q => q)
end Go.Proofs.Ytfhpodeppmnopaa
