/-
  The reference's Throw. Conditions: at most 19 coins.
-/
import Derived.Test.YtammeedmccblcaaCsThR
import Derived.Test.YtammeedmccblcaaCsCh
import Derived.Test.YtammeedmccblcaaCsDice
import Derived.Test.YtammeedmccblcaaCsRbra
namespace Go.Proofs.Ytammeedmccblcaa.Cs
open Go.RowKit

def wayR (need tries seed : Int) (L G : List Cn) : Int × List Cn :=
  if sumD L < need then (match leastD G with | none => (16, []) | some c => (0, [c]))
  else match leastD G with
    | none => (0, (bestF rollF need L (roundsF tries) (L, sumD L) (seedF seed)).1)
    | some c => if (bestF rollF need L (roundsF tries) (L, sumD L) (seedF seed)).2 ≠ need ∧ c.1 ≤ (bestF rollF need L (roundsF tries) (L, sumD L) (seedF seed)).2 then (0, [c]) else (0, (bestF rollF need L (roundsF tries) (L, sumD L) (seedF seed)).1)
theorem throw_filter (need tries seed : Int) (H : List Cn) (h : Desc H) : throwR rollF need tries seed H = wayR need tries seed (H.filter (small need)) (H.filter (great need)) := by
  unfold throwR wayR
  rw [drop_small need H h, take_great need H h]
  cases leastD (H.filter (great need)) <;> rfl
theorem Ints.at_lt {k : IntKind} {w : World} {B : Nat} {v : Value} {xs : List Int} (h : Ints k w B v xs) {i : Nat} {x : Int} (hi : xs[i]? = some x) : ∃ b o c, v = .slice (some ⟨b, o, none⟩) xs.length c ∧ b < B ∧ w.cell? ⟨b, o + i, none⟩ = some (.int k x) := by
  obtain ⟨A, c, hv, h3, h4, h5, h6⟩ := h
  obtain ⟨b, o, e, hlt, hc⟩ := h6 (by rintro rfl; simp at hi)
  exact ⟨b, o, c, by rw [hv, e], hlt, hc i x hi⟩
def GrI (need : Int) (AC : List Cn) (i : Nat) (gi : Int) : Prop := (gi = -1 ∧ leastD ((AC.take i).filter (great need)) = none) ∨ (∃ (g : Nat) (c : Cn), gi = (g : Int) ∧ AC[g]? = some c ∧ leastD ((AC.take i).filter (great need)) = some c)
def sfl (need : Int) (AC : List Cn) (i : Nat) : List Bool := smallB need (AC.take i) ++ List.replicate (AC.length - i) false
theorem sfl_length (need : Int) (AC : List Cn) {i : Nat} (h : i ≤ AC.length) : (sfl need AC i).length = AC.length := by
  unfold sfl smallB
  rw [List.length_append, List.length_map, List.length_take, List.length_replicate]
  omega
theorem sfl_set {need : Int} {AC : List Cn} {i : Nat} {c : Cn} (h : AC[i]? = some c) : (sfl need AC i).set i (small need c) = sfl need AC (i + 1) := by
  have hi := (List.getElem?_eq_some_iff.1 h).1
  unfold sfl smallB
  rw [List.set_append_right _ _ (by rw [List.length_map, List.length_take]; omega), List.length_map, List.length_take, Nat.min_eq_left (by omega), Nat.sub_self, show AC.length - i = (AC.length - (i + 1)) + 1 by omega, List.replicate_succ, List.set_cons_zero, List.take_add_one, h, Option.toList_some, List.map_append, List.append_assoc]
  rfl
theorem sfl_end (need : Int) (AC : List Cn) : sfl need AC AC.length = smallB need AC := by
  unfold sfl
  rw [List.take_length, Nat.sub_self]
  simp
theorem sfl_zero (need : Int) (AC : List Cn) : sfl need AC 0 = flags 0 AC.length := by
  unfold sfl flags smallB
  simp
theorem gr_small {need : Int} {AC : List Cn} {i : Nat} {gi : Int} {c : Cn} (h : GrI need AC i gi) (hc : AC[i]? = some c) (hs : c.1 < need) : GrI need AC (i + 1) gi := by
  unfold GrI at h ⊢
  rw [filter_next (great need) AC hc, show great need c = false by simp [great, hs]]
  simpa using h
theorem gr_first {need : Int} {AC : List Cn} {i : Nat} {gi : Int} {c : Cn} (h : GrI need AC i gi) (hc : AC[i]? = some c) (hs : ¬ c.1 < need) (hg : gi < 0) : GrI need AC (i + 1) (i : Int) := by
  rcases h with ⟨_, h⟩ | ⟨g, _, h, _⟩
  · refine .inr ⟨i, c, rfl, hc, ?_⟩
    rw [filter_next (great need) AC hc, show great need c = true by simp [great, hs], if_pos rfl, least_snoc, h]
  · omega
theorem gr_next {need : Int} {AC : List Cn} {i : Nat} {gi : Int} {c m : Cn} {g : Nat} (h : GrI need AC i gi) (hc : AC[i]? = some c) (hs : ¬ c.1 < need) (hg : gi = (g : Int)) (hm : AC[g]? = some m) : GrI need AC (i + 1) (if c.1 < m.1 then (i : Int) else gi) := by
  rcases h with ⟨h, _⟩ | ⟨g', m', h1, h2, h3⟩
  · omega
  · obtain rfl : g' = g := by omega
    rw [hm] at h2
    injection h2 with h2
    subst h2
    have e : leastD ((AC.take (i + 1)).filter (great need)) = some (leastF m c) := by
      rw [filter_next (great need) AC hc, show great need c = true by simp [great, hs], if_pos rfl, least_snoc, h3]
    unfold leastF at e
    split
    · next hl =>
      rw [if_pos hl] at e
      exact .inr ⟨i, c, rfl, hc, e⟩
    · next hl =>
      rw [if_neg hl] at e
      exact .inr ⟨g', m, h1, hm, e⟩
/-- The flags of a throw in memory: the small ones, the best; those that are taken. -/
structure Rd (w4 : World) (GS n : Nat) (sm : List Bool) (vb : Value) (bs : List Bool) (wr : World) : Prop where
  s : VRow wr GS 4 (sm.map Value.bool)
  b : wr.ownsRow (GS + 1) 4 1 vb n (bs.map Value.bool)
  t : Below w4.heap.size w4 wr
  g : w4.heap.size ≤ GS
structure Rk (w4 : World) (GS n : Nat) (sm : List Bool) (vb : Value) (bs : List Bool) (GK : Nat) (f : List Bool) (wr : World) : Prop extends Rd w4 GS n sm vb bs wr where
  k : VRow wr GK 4 (f.map Value.bool)
  a : ∀ q, vb.ownBlock = some q → q ≠ GK
  o : GS < GK
theorem Rd.below {w4 wr w' : World} {GS n : Nat} {sm bs : List Bool} {vb : Value} (h : Rd w4 GS n sm vb bs wr) (hb : Below wr.heap.size wr w') : Rd w4 GS n sm vb bs w' :=
  ⟨h.s.below hb h.s.lt, own_below h.b hb, h.t.trans (hb.mono h.t.size), h.g⟩
theorem Rk.below {w4 wr w' : World} {GS n GK : Nat} {sm bs f : List Bool} {vb : Value} (h : Rk w4 GS n sm vb bs GK f wr) (hb : Below wr.heap.size wr w') : Rk w4 GS n sm vb bs GK f w' :=
  ⟨h.toRd.below hb, h.k.below hb h.k.lt, h.a, h.o⟩
theorem Rd.make {w4 wr : World} {GS n : Nat} {sm bs : List Bool} {vb : Value} (h : Rd w4 GS n sm vb bs wr) (f : List Bool) : Rk w4 GS n sm vb bs wr.heap.size f (wr.alloc (.cells (f.map Value.bool).toArray 4)) :=
  ⟨h.below ((Below.refl _ _).alloc (Nat.le_refl _) _), VRow.new _ _ _, fun q hq e => by have := (h.b.lt q hq).2; omega, h.s.lt⟩
theorem Rk.set {w4 wr : World} {GS n GK : Nat} {sm bs f : List Bool} {vb : Value} (h : Rk w4 GS n sm vb bs GK f wr) (i : Nat) (b : Bool) : Rk w4 GS n sm vb bs GK (f.set i b) (wr.setCell ⟨GK, i, none⟩ (.bool b)) := by
  have t : Turns (fun q => q = GK) wr (wr.setCell ⟨GK, i, none⟩ (.bool b)) := Turns.setCell (S := fun q => q = GK) (Turns.refl _ _) (p := ⟨GK, i, none⟩) (fun _ => rfl) _
  refine ⟨⟨h.s.turns t (fun e => by have := h.o; omega), own_turns h.b t (fun q hq e => h.a q hq e), h.t.setCell (p := ⟨GK, i, none⟩) (by have := h.o; have := h.g; show w4.heap.size ≤ GK; omega) _, h.g⟩, ?_, h.a, h.o⟩
  rw [List.map_set]
  exact h.k.set i _
theorem Rk.copy {w4 wr w' : World} {GS n GK : Nat} {sm bs f : List Bool} {vb v0 v1 : Value} (h : Rk w4 GS n sm vb bs GK f wr) (ho : w'.ownsRow (GS + 1) 4 1 v1 n (f.map Value.bool)) (hb : Below wr.heap.size wr w') (h0 : ∀ q, v0.ownBlock = some q → wr.heap.size ≤ q) {z : Nat} (hz : wr.heap.size ≤ z) (h1 : v1.ownBlock = v0.ownBlock ∨ v1.ownBlock = some z) : Rk w4 GS n sm v1 f GK f w' := by
  refine ⟨⟨h.s.below hb h.s.lt, ho, h.t.trans (hb.mono h.t.size), h.g⟩, h.k.below hb h.k.lt, fun q hq e => ?_, h.o⟩
  have hk := h.k.lt
  rcases h1 with h1 | h1
  · rw [h1] at hq
    have := h0 q hq
    omega
  · rw [h1] at hq
    injection hq with hq
    omega
def Stg (need : Int) (AC L : List Cn) (x : Int) (p : Nat) (rd : Bool) (S : Att) (x' : Int) (f : List Bool) : Prop :=
  (p = 0 ∧ S = att0 ∧ f = flags 0 AC.length ∧ x' = x ∧ rd = false) ∨ (p = 1 ∧ S = (passF rollF need x L).S ∧ x' = (passF rollF need x L).x ∧ (rd = false → (passF rollF need x L).O = oth need AC f AC.length)) ∨ (p = 2 ∧ S = lastF need (passF rollF need x L) ∧ x' = (passF rollF need x L).x)
theorem pass_small {need x : Int} {AC : List Cn} {i : Nat} {y : Cn} (hy : AC[i]? = some y) (hs : y.1 < need) : passF rollF need x ((AC.take (i + 1)).filter (small need)) = passA rollF need (passF rollF need x ((AC.take i).filter (small need))) y := by
  rw [filter_next (small need) AC hy, show small need y = true from decide_eq_true hs, if_pos rfl]
  unfold passF
  rw [List.foldl_append]
  rfl
theorem pass_great {need x : Int} {AC : List Cn} {i : Nat} {y : Cn} (hy : AC[i]? = some y) (hs : ¬ y.1 < need) : passF rollF need x ((AC.take (i + 1)).filter (small need)) = passF rollF need x ((AC.take i).filter (small need)) := by
  rw [filter_next (small need) AC hy, show small need y = false from decide_eq_false hs]
  simp
theorem oth_great {need : Int} {AC : List Cn} {f : List Bool} {i : Nat} {y : Cn} {t : Bool} (lf : f.length = AC.length) (hy : AC[i]? = some y) (hf : f[i]? = some t) (hs : ¬ y.1 < need) : oth need AC f (i + 1) = oth need AC f i := by
  rw [oth_next lf hy hf, show small need y = false from decide_eq_false hs]
  simp
theorem oth_taken {need : Int} {AC : List Cn} {f : List Bool} {i : Nat} {y : Cn} (lf : f.length = AC.length) (hy : AC[i]? = some y) (hf : f[i]? = some true) : oth need AC f (i + 1) = oth need AC f i := by
  rw [oth_next lf hy hf]
  simp
theorem oth_left {need : Int} {AC : List Cn} {f : List Bool} {i : Nat} {y : Cn} (lf : f.length = AC.length) (hy : AC[i]? = some y) (hf : f[i]? = some false) (hs : y.1 < need) : oth need AC f (i + 1) = oth need AC f i ++ [y] := by
  rw [oth_next lf hy hf, show small need y = true from decide_eq_true hs]
  rfl
theorem oth_put {need : Int} {AC : List Cn} {f : List Bool} {i : Nat} {y : Cn} (lf : f.length = AC.length) (hy : AC[i]? = some y) (hf : f[i]? = some false) : oth need AC (f.set i true) (i + 1) = oth need AC f i := by
  rw [oth_taken (by rw [List.length_set]; exact lf) hy (by rw [List.getElem?_set_self (List.getElem?_eq_some_iff.1 hf).1]), oth_set]
theorem set_back {f : List Bool} {i : Nat} (hf : f[i]? = some false) : (f.set i true).set i false = f := by
  obtain ⟨hi, e⟩ := List.getElem?_eq_some_iff.1 hf
  rw [List.set_set, ← e, List.set_getElem_self]
theorem pick_flags0 (AC : List Cn) : pick AC (flags 0 AC.length) = [] := by rw [pick_flags AC 0 (Nat.zero_le _)]; rfl
theorem flags0_at {n i : Nat} (h : i < n) : (flags 0 n)[i]? = some false := by
  unfold flags
  rw [Nat.sub_zero, List.replicate_zero, List.nil_append, List.getElem?_replicate, if_pos h]
theorem pick_mem : ∀ (l : List Cn) (f : List Bool) (c : Cn), c ∈ pick l f → c ∈ l
  | [], f, c, h => by cases f <;> cases h
  | _ :: _, [], _, h => by cases h
  | a :: l, b :: f, c, h => by
    have ih := pick_mem l f c
    unfold pick at h
    split at h
    · rcases List.mem_cons.1 h with rfl | h
      · exact List.mem_cons_self
      · exact List.mem_cons_of_mem _ (ih h)
    · exact List.mem_cons_of_mem _ (ih h)
theorem Rel.best {AC : List Cn} {S : Att} {b : List Cn × Int} {f bs : List Bool} {rd : Bool} {n : Nat} (h : Rel AC S b f bs rd) (hn : n = AC.length) : (pick AC bs).Perm (betterF S b).1 ∧ sumD (pick AC bs) = (betterF S b).2 ∧ bs.length = n := ⟨h.q, h.s, by rw [hn]; exact h.lb⟩
theorem last_of {need : Int} {T : Pass} {AC : List Cn} {b : List Cn × Int} {f bs : List Bool} {rd : Bool} (h : Rel AC T.S b f bs rd) (hr : rd = true) : lastF need T = T.S := by
  have q := h.r
  rw [hr] at q
  exact if_neg (of_decide_eq_true q.symm)
theorem last_on {need : Int} {T : Pass} {AC : List Cn} {b : List Cn × Int} {f bs : List Bool} {rd : Bool} (h : Rel AC T.S b f bs rd) (hr : rd = false) : lastF need T = T.O.foldl (pickA need) T.S := by
  have q := h.r
  rw [hr] at q
  exact if_pos (by simpa using q)
theorem slt_bool : SlT 64 4 1 1 := slt_of (z := .bool false) Try.underlying64 (by kernel_rfl) rfl (by decide)
theorem mk0_bool (W : World) : (Instr.buildSlice 64 0 #[]).run Try.prog W = .ok (.slice (some ⟨W.heap.size, 0, none⟩) 0 0) (W.alloc (.cells #[] 4)) := by kernel_rfl
set_option maxRecDepth 100000 in
set_option maxHeartbeats 6400000 in
theorem rthrow_any (B : Nat) (v : Value) (l : List (Int × Int)) (need extra rate tries seed : Int) (w : World) (hX : CrR w B v l) (hB : B ≤ w.heap.size) (hl : l.length ≤ 19) (hc : CoinsOk l) :
    Calls Try.prog 19 #[v, .agg (tkC need extra rate tries seed).toArray] w fun e w' => ∃ p, e = .returned (.tuple #[p, .int .i64 (ThrowF need rate tries seed l).1]) ∧ PlR w' w'.heap.size p (ThrowF need rate tries seed l).2 ∧ Below w.heap.size w w' := by
  have hct := fun W => count_any need extra rate tries seed W
  have hord := fun W (hb : Below B w W) => order_any B v l rate W (hX.below hb) (Nat.le_trans hB hb.size) hl hc
  have hhl := handF_length rate l
  have hpos := handF_pos rate l
  obtain ⟨R, hR⟩ : ∃ z, z = ThrowF need rate tries seed l := ⟨_, rfl⟩
  rw [← hR]
  unfold ThrowF selF at hR
  obtain ⟨n1, hn1⟩ : ∃ z, z = lowF need := ⟨_, rfl⟩
  obtain ⟨n2, hn2⟩ : ∃ z, z = lowF extra := ⟨_, rfl⟩
  obtain ⟨n3, hn3⟩ : ∃ z, z = triesF tries := ⟨_, rfl⟩
  obtain ⟨AC, hAC⟩ : ∃ z, z = handF rate l := ⟨_, rfl⟩
  rw [← hn1, ← hn2, ← hn3] at hct
  simp only [← hAC] at hord hhl hpos
  simp only [← hn1, ← hn3, ← hAC] at hR
  have h30 := triesF_bd tries
  rw [← hn3] at h30
  obtain ⟨T, rfl⟩ : ∃ T : Nat, n3 = (T : Int) := ⟨n3.toNat, by omega⟩
  have hdesc : Desc AC := by rw [hAC]; exact sortD_desc _
  have HTW := Lib.hid (throw_filter n1 (T : Int) seed AC hdesc)
  have h10 : 0 ≤ n1 := by rw [hn1]; exact lowF_bd need
  have hl19 : AC.length ≤ 19 := by omega
  obtain ⟨A, c, rfl, _, _⟩ := hX.form
  have HB := Lib.hid hB
  have HP := Lib.hid hpos
  clear hX hB hl hc hn1 hn2 hn3 hAC hhl hpos
  have hbA : ∀ O, Below w.heap.size w (w.alloc O) := fun O => (Below.refl _ _).alloc (Nat.le_refl _) _
  have hrt1 := rtsk_one n1 n2 rate (T : Int) seed
  unfold tkC at hct ⊢
  have hvn : VRow (w.alloc (.cells [Value.int .i64 need, .int .i64 extra, .int .i64 rate, .int .i64 tries, .int .u64 seed].toArray 25)) w.heap.size 25 [.int .i64 need, .int .i64 extra, .int .i64 rate, .int .i64 tries, .int .u64 seed] := VRow.new w _ _
  obtain ⟨W1, hW1⟩ : ∃ z, z = w.alloc (.cells [Value.int .i64 need, .int .i64 extra, .int .i64 rate, .int .i64 tries, .int .u64 seed].toArray 25) := ⟨_, rfl⟩
  have hb0 := hbA (.cells [Value.int .i64 need, .int .i64 extra, .int .i64 rate, .int .i64 tries, .int .u64 seed].toArray 25)
  rw [← hW1] at hvn hb0
  have HVN := Lib.hid hvn
  have HB0 := Lib.hid hb0
  have hgw : w.heap.size < W1.heap.size := hvn.lt
  obtain ⟨GT, hGT⟩ : ∃ z, z = w.heap.size := ⟨_, rfl⟩
  go_enter Try.func19, Try.ntmps19
  go_upto_region 1 with fail
  change Code.wp _ _ _ _ (w.alloc (.cells [Value.int .i64 need, .int .i64 extra, .int .i64 rate, .int .i64 tries, .int .u64 seed].toArray 25))
  rw [← hW1, ← hGT]
  rw [← hGT] at hgw
  have HGT := Lib.hid hGT
  have hv2 : VRow W1 GT 25 [.int .i64 need, .int .i64 extra, .int .i64 rate, .int .i64 tries, .int .u64 seed] := by rw [hGT]; exact hvn
  have x2 : W1.cell? ⟨GT, 2, none⟩ = some (.int .i64 rate) := hv2.cell rfl
  have HV2 := Lib.hid hv2
  clear hvn hb0 hW1 hGT hv2
  go_upto_region 2 with (first
    | (refine wpList_load_vrow rfl 25 (.tmp 3) rfl rfl HV2.out Try.underlying25 rtsk5 ?_)
    | (go_at_call 29; refine (hct _).mono ?_; rintro e w2 ⟨rfl, hb2⟩; have HV3 := HV2.out.below hb2 HV2.out.lt)
    | (refine wpList_store_vrow rfl 25 (.tmp 3) (.tmp 21) rfl (us := [.int .i64 n1, .int .i64 n2, .int .i64 rate, .int .i64 (T : Int), .int .u64 seed]) rfl rfl HV3 rtsk5 rfl hrt1 ?_))
  try dsimp only [Act.put]
  obtain ⟨W3, hW3⟩ : ∃ z, z = w2.setRow GT [Value.int .i64 n1, .int .i64 n2, .int .i64 rate, .int .i64 (T : Int), .int .u64 seed].toArray := ⟨_, rfl⟩
  have hv4 : VRow W3 GT 25 [.int .i64 n1, .int .i64 n2, .int .i64 rate, .int .i64 (T : Int), .int .u64 seed] := by rw [hW3]; exact HV3.setRow _
  have b3 : Below w.heap.size w W3 := by rw [hW3]; exact below_setRow (HB0.out.trans (hb2.mono HB0.out.size)) (by have := HGT.out; omega) _
  change Code.wp _ _ _ _ (w2.setRow GT [Value.int .i64 n1, .int .i64 n2, .int .i64 rate, .int .i64 (T : Int), .int .u64 seed].toArray)
  rw [← hW3]
  have z2 : W3.cell? ⟨GT, 2, none⟩ = some (.int .i64 rate) := hv4.cell rfl
  have HO := Lib.hid (hord W3 (b3.mono HB.out))
  have V4 := Lib.hid hv4
  have B3 := Lib.hid b3
  clear hW3 hv4 b3 hb2 HV3 hct hord x2
  by_cases hsum : sumD AC ≤ 2100000000000000
  · have hok : decide (sumD AC ≤ 2100000000000000) = true := decide_eq_true hsum
    rw [hok] at HO
    rw [if_pos hsum] at hR
    have HR := Lib.hid hR
    have HSM := Lib.hid hsum
    clear hR hok hsum
    go_upto_region 5 with (first
      | (go_at_call 30; refine HO.out.mono ?_; rintro e w4 ⟨ua, uw, rfl, hau, hb4⟩))
    obtain ⟨hIa, hIw⟩ := hau HSM.out
    obtain ⟨Aa, ca, rfl, ha1, ha2⟩ := Ints.form hIa
    obtain ⟨Aw, cw, rfl, hw1, hw2⟩ := Ints.form hIw
    have hla : (atI AC).length = AC.length := List.length_map _
    have hlw : (woI AC).length = AC.length := List.length_map _
    rw [hla] at hIa ha1
    rw [hlw] at hIw hw1
    rw [hla, hlw]
    obtain ⟨n, hn⟩ : ∃ z, z = AC.length := ⟨_, rfl⟩
    rw [← hn] at hIa hIw ha1 hw1 hl19 ⊢
    have hmk := make_flags n (by omega) w4
    have hz4 : w4.cell? ⟨GT, 0, none⟩ = some (.int .i64 n1) := (hb4.cell (p := ⟨GT, 0, none⟩) V4.out.lt).trans (V4.out.cell rfl)
    have V5 := Lib.hid (V4.out.below hb4 V4.out.lt)
    have B4 := Lib.hid (B3.out.trans (hb4.mono B3.out.size))
    have HIA := Lib.hid hIa
    have HIW := Lib.hid hIw
    have HN := Lib.hid hn
    clear hau hIa hIw hn hla hlw hb4 z2 HO
    go_wp2_with fail
    obtain ⟨WM, hWM⟩ : ∃ z, z = w4.alloc (.cells ((flags 0 n).map Value.bool).toArray 4) := ⟨_, rfl⟩
    obtain ⟨GS, hGS⟩ : ∃ z, z = w4.heap.size := ⟨_, rfl⟩
    have hF0 : VRow WM GS 4 ((sfl n1 AC 0).map Value.bool) := by rw [hWM, hGS, sfl_zero, ← HN.out]; exact VRow.new _ _ _
    have hbM : Below w4.heap.size w4 WM := by rw [hWM]; exact (Below.refl _ _).alloc (Nat.le_refl _) _
    rw [← hWM, ← hGS]
    have HGS := Lib.hid hGS
    have HF0 := Lib.hid hF0
    have HBM := Lib.hid hbM
    have GTL := Lib.hid V5.out.lt
    have hz3 : w4.cell? ⟨GT, 3, none⟩ = some (.int .i64 (T : Int)) := V5.out.cell rfl
    have hz5 : w4.cell? ⟨GT, 4, none⟩ = some (.int .u64 seed) := V5.out.cell rfl
    have HZ := Lib.hid (And.intro hz4 (And.intro hz3 hz5))
    clear hWM hGS hF0 hbM hmk hz4 hz3 hz5
    go_loopw [9, 11] (fun sg si wr => ∃ (i : Nat) (gi : Int), i ≤ n ∧ si = .int .i64 (i : Int) ∧ sg = .int .i64 gi ∧ Hid (GrI n1 AC i gi) ∧ Hid (VRow wr GS 4 ((sfl n1 AC i).map Value.bool)) ∧ Hid (Below w4.heap.size w4 wr)) (fun _ si _ => n - (intOf si).toNat)
    case atStart => exact ⟨0, -1, Nat.zero_le _, rfl, rfl, Lib.hid (.inl ⟨rfl, rfl⟩), HF0, HBM⟩
    case round =>
      obtain ⟨i, gi, hi, rfl, rfl, hgr, hF, hb5⟩ := hrel
      obtain ⟨w5, rfl⟩ : ∃ z : World, z = wr := ⟨_, rfl⟩
      by_cases hlt : i < n
      · have di : decide ((i : Int) < (n : Int)) = true := decide_eq_true (by omega)
        obtain ⟨y, hy⟩ : ∃ y, AC[i]? = some y := ⟨_, List.getElem?_eq_getElem (by rw [← HN.out]; exact hlt)⟩
        have hIw5 : Ints .i64 w5 w4.heap.size (.slice Aw n cw) (woI AC) := Ints.below HIW.out hb5.out
        obtain ⟨b', o', c', ef, hbl, hcw⟩ := Ints.at_lt hIw5 (i := i) (x := y.1) (by unfold woI; rw [List.getElem?_map, hy]; rfl)
        injection ef with ef1 ef2 ef3
        subst ef1
        clear ef2 ef3
        have hbg : b' ≠ GS := by have := HGS.out; omega
        have hgg : GT ≠ GS := by have := HGS.out; have := GTL.out; omega
        have y0 : w5.cell? ⟨GT, 0, none⟩ = some (.int .i64 n1) := (hb5.out.cell (p := ⟨GT, 0, none⟩) GTL.out).trans HZ.out.1
        obtain ⟨fv, hfv⟩ : ∃ v, ((sfl n1 AC i).map Value.bool)[i]? = some v := ⟨_, List.getElem?_eq_getElem (by rw [List.length_map, sfl_length n1 AC (by rw [← HN.out]; exact hi), ← HN.out]; exact hlt)⟩
        have cf := hF.out.cell hfv
        have ff := hF.out.free i
        clear hfv
        have F6 := Lib.hid (show VRow (w5.setCell ⟨GS, i, none⟩ (.bool (decide (y.1 < n1)))).drew GS 4 ((sfl n1 AC (i + 1)).map Value.bool) by
          have q := hF.out.set i (.bool (decide (y.1 < n1)))
          rw [← sfl_set hy, List.map_set]
          exact q)
        have hcs : ((sfl n1 AC (i + 1)).map Value.bool)[i]? = some (.bool (decide (y.1 < n1))) := by
          rw [← sfl_set hy, List.map_set, List.getElem?_set_self (by rw [List.length_map, sfl_length n1 AC (by rw [← HN.out]; exact hi), ← HN.out]; exact hlt)]
          rfl
        have hB6 : Below w4.heap.size w4 (w5.setCell ⟨GS, i, none⟩ (.bool (decide (y.1 < n1)))).drew := (hb5.out.setCell (p := ⟨GS, i, none⟩) (by have := HGS.out; show w4.heap.size ≤ GS; omega) _).drew
        have tt : Turns (fun q => q = GS) w5 (w5.setCell ⟨GS, i, none⟩ (.bool (decide (y.1 < n1)))).drew := (Turns.setCell (S := fun q => q = GS) (Turns.refl _ _) (p := ⟨GS, i, none⟩) (fun _ => rfl) _).drew
        have hIw6 : Ints .i64 (w5.setCell ⟨GS, i, none⟩ (.bool (decide (y.1 < n1)))).drew w4.heap.size (.slice (some ⟨b', o', none⟩) n cw) (woI AC) := Ints.below HIW.out hB6
        have c0 : (w5.setCell ⟨GS, i, none⟩ (.bool (decide (y.1 < n1)))).drew.cell? ⟨b', o' + i, none⟩ = some (.int .i64 y.1) := (tt.cell (p := ⟨b', o' + i, none⟩) (by show b' < _; have := hb5.out.size; omega) (fun e => hbg e)).trans hcw
        have HB6 := Lib.hid hB6
        have HIW6 := Lib.hid hIw6
        have HY := Lib.hid hy
        go_upto_region 10 with fail
        go_region
        obtain ⟨w6, hw6⟩ : ∃ z, z = (w5.setCell ⟨GS, i, none⟩ (.bool (decide (y.1 < n1)))).drew := ⟨_, rfl⟩
        rw [← hw6] at c0
        simp only [← hw6] at F6 HB6 HIW6
        rw [← hw6]
        clear hw6 hF hb5 hIw5 hB6 tt hIw6 hy y0 hcw cf ff
        have c1 := F6.out.cell hcs
        clear hcs
        by_cases hs : y.1 < n1
        · as_aux_lemma =>
          have ds : decide (y.1 < n1) = true := decide_eq_true hs
          rw [ds] at c1
          simp only [ds]
          have HG2 := Lib.hid (gr_small hgr.out HY.out hs)
          clear hgr hs
          go_upto_region 11 with fail
          go_quiet (fail)
          go_wp2_with fail
          exact ⟨⟨i + 1, gi, hlt, by first | rfl | exact next (by omega), rfl, HG2, F6, Lib.hid (bel_drewN HB6.out _)⟩, by first | exact meas hlt (by omega) | (show n - ((i : Int) + 1).toNat < n - (i : Int).toNat; omega)⟩
        · have ds : decide (y.1 < n1) = false := decide_eq_false hs
          rw [ds] at c1
          simp only [ds]
          rcases hgr.out with ⟨rfl, hno⟩ | ⟨g, m, rfl, hm, hle⟩
          · as_aux_lemma =>
            have HG2 := Lib.hid (gr_first hgr.out HY.out hs (by decide))
            clear hgr hs hno
            go_upto_region 11 with fail
            go_quiet (fail)
            go_wp2_with fail
            exact ⟨⟨i + 1, (i : Int), hlt, by first | rfl | exact next (by omega), rfl, HG2, F6, Lib.hid (bel_drewN HB6.out _)⟩, by first | exact meas hlt (by omega) | (show n - ((i : Int) + 1).toNat < n - (i : Int).toNat; omega)⟩
          · have HG2 := Lib.hid (gr_next hgr.out HY.out hs rfl hm)
            have dg : decide ((g : Int) < 0) = false := decide_eq_false (by omega)
            obtain ⟨b2, o2, c2, ef, hbl2, hcm⟩ := Ints.at_lt HIW6.out (i := g) (x := m.1) (by unfold woI; rw [List.getElem?_map, hm]; rfl)
            injection ef with ef1 ef2 ef3
            injection ef1 with ef1
            injection ef1 with e1 e2 e3
            subst e1 e2
            clear ef2 ef3 e3
            have hgn : g < n := by rw [HN.out]; exact (List.getElem?_eq_some_iff.1 hm).1
            by_cases hl : y.1 < m.1
            · as_aux_lemma =>
              have dl : decide (y.1 < m.1) = true := decide_eq_true hl
              rw [if_pos hl] at HG2
              clear hgr hs hle hm hl
              go_upto_region 11 with fail
              go_quiet (fail)
              go_wp2_with fail
              exact ⟨⟨i + 1, (i : Int), hlt, by first | rfl | exact next (by omega), rfl, HG2, F6, Lib.hid (bel_drewN HB6.out _)⟩, by first | exact meas hlt (by omega) | (show n - ((i : Int) + 1).toNat < n - (i : Int).toNat; omega)⟩
            · as_aux_lemma =>
              have dl : decide (y.1 < m.1) = false := decide_eq_false hl
              rw [if_neg hl] at HG2
              clear hgr hs hle hm hl
              go_upto_region 11 with fail
              go_quiet (fail)
              go_wp2_with fail
              exact ⟨⟨i + 1, (g : Int), hlt, by first | rfl | exact next (by omega), rfl, HG2, F6, Lib.hid (bel_drewN HB6.out _)⟩, by first | exact meas hlt (by omega) | (show n - ((i : Int) + 1).toNat < n - (i : Int).toNat; omega)⟩
      · have di : decide ((i : Int) < (n : Int)) = false := decide_eq_false (by omega)
        obtain rfl : n = i := by omega
        have hF2 : VRow w5 GS 4 ((smallB n1 AC).map Value.bool) := by
          have q := hF.out
          rw [HN.out, sfl_end] at q
          exact q
        have hG2 : (gi = -1 ∧ leastD (AC.filter (great n1)) = none) ∨ (∃ (g : Nat) (c : Cn), gi = (g : Int) ∧ AC[g]? = some c ∧ leastD (AC.filter (great n1)) = some c) := by
          have q := hgr.out
          unfold GrI at q
          rw [HN.out, List.take_length] at q
          exact q
        have hR := HR.out
        rw [HTW.out] at hR
        clear HR HTW hF hgr
        obtain ⟨L, hL⟩ : ∃ z, z = AC.filter (small n1) := ⟨_, rfl⟩
        obtain ⟨LG, hLG⟩ : ∃ z, z = leastD (AC.filter (great n1)) := ⟨_, rfl⟩
        unfold wayR at hR
        rw [← hL, ← hLG] at hR
        rw [← hLG] at hG2
        have hpickS : pick AC (smallB n1 AC) = L := by rw [pick_small, hL]
        have hLp : Pos L := fun c hc => HP.out c (by rw [hL] at hc; exact (List.mem_filter.1 hc).1)
        have hsl : (smallB n1 AC).length = n := by unfold smallB; rw [List.length_map, HN.out]
        have hbdS := pick_bd AC (smallB n1 AC) HP.out
        rw [hpickS] at hbdS
        have hSMo := HSM.out
        obtain ⟨SL, hSL⟩ : ∃ z, z = sumD L := ⟨_, rfl⟩
        rw [← hSL] at hR hbdS
        have hSLb : 0 ≤ SL ∧ SL ≤ 2100000000000000 := by omega
        have hsu := fun W (h : Below w5.heap.size w5 W) => rsum_any W.heap.size (.slice Aw n cw) (.slice (some ⟨GS, 0, none⟩) n n) AC (smallB n1 AC) W (ints_more (Ints.below (Ints.keepB HIW.out hb5.out) h) h.size) (((flr_row (hF2.below h hF2.lt) hsl (by omega)).more (Nat.lt_of_lt_of_le hF2.lt h.size))) (by rw [hsl]; exact HN.out.symm) (Nat.le_refl _) HP.out HSM.out (by rw [← HN.out]; exact hl19)
        simp only [hpickS, ← hSL] at hsu
        have y0 : w5.cell? ⟨GT, 0, none⟩ = some (.int .i64 n1) := (hb5.out.cell (p := ⟨GT, 0, none⟩) GTL.out).trans HZ.out.1
        have HSU := Lib.hid hsu
        have HSL := Lib.hid hSL
        have HLL := Lib.hid hL
        have HR := Lib.hid hR
        have HG2 := Lib.hid hG2
        have HF2 := Lib.hid hF2
        have HLP := Lib.hid hLp
        have HSLN := Lib.hid hsl
        clear hsu hSL hL hR hG2 hF2 hLp hsl hpickS hbdS hSMo hLG
        by_cases hsm : SL < n1
        · as_aux_lemma =>
          have ds : decide (SL < n1) = true := decide_eq_true hsm
          have GT5 := Lib.hid (show GT < w5.drew.heap.size from Nat.lt_of_lt_of_le GTL.out hb5.out.size)
          have BW := Lib.hid (B4.out.trans (hb5.out.mono B4.out.size))
          have HIA5 := Lib.hid (Ints.below HIA.out hb5.out)
          rcases HG2.out with ⟨rfl, hno⟩ | ⟨g, gc, rfl, hgc, hso⟩
          · have hRe : R = (16, []) := by rw [HR.out, if_pos hsm, hno]; rfl
            clear HR HG2
            subst hRe
            go_upto_region 13 with fail
            refine wp_region_held_drew (S := (fun w' => w'.cell? ⟨GT, 0, none⟩ = some (.int .i64 n1))) (by kernel_rfl) ?_ (fun hHeld => ?_)
            · exact y0
            refine wpAnyH_take (i := 0) (oi := { dst := some 72, op := Go.Op.move (Go.Operand.tmp 7), type := 49, pos := "ref.go:177", after := #[], guard := none }) (v := ?av0) rfl (by kernel_rfl) (by kernel_rfl) (by kernel_rfl) (fun _ _ _ h => h) (Or.inl ⟨by rfl, ?ay0⟩) (by assumption) ?ar0
            case ay0 => (intro w hSw; (try dsimp only at hSw); go_simp; try (with_reducible rfl))
            case ar0 =>
            try simp only [Act.put, List.setIfInBounds_toArray, List.set_cons_zero, List.set_cons_succ]
            refine wpAnyH_take (i := 1) (oi := { dst := some 73, op := Go.Op.move (Go.Operand.tmp 10), type := 64, pos := "ref.go:177", after := #[], guard := none }) (v := ?av1) rfl (by kernel_rfl) (by kernel_rfl) (by kernel_rfl) (fun _ _ _ h => h) (Or.inl ⟨by rfl, ?ay1⟩) (by assumption) ?ar1
            case ay1 => (intro w hSw; (try dsimp only at hSw); go_simp; try (with_reducible rfl))
            case ar1 =>
            try simp only [Act.put, List.setIfInBounds_toArray, List.set_cons_zero, List.set_cons_succ]
            refine wpAnyH_take (i := 3) (oi := { dst := some 75, op := Go.Op.fieldAddr 25 (Go.Operand.tmp 3) 0, type := 0, pos := "ref.go:177", after := #[], guard := none }) (v := ?av3) rfl (by kernel_rfl) (by kernel_rfl) (by kernel_rfl) (fun _ _ _ h => h) (Or.inl ⟨by rfl, ?ay3⟩) (by assumption) ?ar3
            case ay3 => (intro w hSw; (try dsimp only at hSw); go_simp; try (with_reducible rfl))
            case ar3 =>
            try simp only [Act.put, List.setIfInBounds_toArray, List.set_cons_zero, List.set_cons_succ]
            refine wpAnyH_take (i := 4) (oi := { dst := some 76, op := Go.Op.load 2 (Go.Operand.tmp 75), type := 2, pos := "ref.go:177", after := #[{ on := 3, ground := Go.Ground.data }], guard := none }) (v := ?av4) rfl (by kernel_rfl) (by kernel_rfl) (by kernel_rfl) (fun _ _ _ h => h) (Or.inl ⟨by rfl, ?ay4⟩) (by assumption) ?ar4
            case ay4 => (intro w hSw; (try dsimp only at hSw); go_simp; try (with_reducible rfl))
            case ar4 =>
            try simp only [Act.put, List.setIfInBounds_toArray, List.set_cons_zero, List.set_cons_succ]
            refine wpAnyH_ready (rs := [2]) (by kernel_rfl) (by simp) ?_
            refine AllReadyH.cons (o := { dst := some 74, op := Go.Op.call { callee := Go.Callee.value (Go.Operand.func 33), args := #[Go.Operand.tmp 72, Go.Operand.tmp 73], argTypes := #[49, 64] }, type := 2, pos := "ref.go:177", after := #[{ on := 0, ground := Go.Ground.data }, { on := 1, ground := Go.Ground.data }], guard := none }) rfl (fun K hK => ?_) (AllReadyH.nil)
            go_simp
            refine (HSU.out _ (Below.refl _ _).drew).mono ?_
            rintro e w6 ⟨rfl, hb6⟩
            go_simp
            refine hK.out _ _ ?_ (fun hHeld => ?_)
            · exact (hb6.cell (p := ⟨GT, 0, none⟩) GT5.out).trans y0
            clear hK K
            try simp only [Act.put, List.setIfInBounds_toArray, List.set_cons_zero, List.set_cons_succ]
            refine wpAnyH_take (i := 5) (oi := { dst := some 77, op := Go.Op.binOp Go.BinOp.lss 2 (Go.Operand.tmp 74) (Go.Operand.tmp 76) 2, type := 4, pos := "ref.go:177", after := #[{ on := 2, ground := Go.Ground.data }, { on := 4, ground := Go.Ground.data }], guard := none }) (v := ?a_2v5) rfl (by kernel_rfl) (by kernel_rfl) (by kernel_rfl) (fun _ _ _ h => h) (Or.inl ⟨by rfl, ?a_2y5⟩) (by assumption) ?a_2r5
            case a_2y5 => (intro w hSw; (try dsimp only at hSw); go_simp; try (with_reducible rfl))
            case a_2r5 =>
            try simp only [Act.put, List.setIfInBounds_toArray, List.set_cons_zero, List.set_cons_succ]
            refine wpAnyH_done (by kernel_rfl) ?_ _
            go_wp2_with fail
            go_ret2
            exact ⟨_, rfl, Ints.nil _ _ _, BW.out.drew.trans (hb6.mono BW.out.drew.size)⟩
          · have hRe : R = (0, [gc.2]) := by rw [HR.out, if_pos hsm, hso]; rfl
            clear HR HG2
            subst hRe
            have dg : decide ((g : Int) < 0) = false := decide_eq_false (by omega)
            have hgn : g < n := by rw [HN.out]; exact (List.getElem?_eq_some_iff.1 hgc).1
            obtain ⟨b3, o3, c3, ef, hbl3, hca⟩ := Ints.at_lt HIA5.out (i := g) (x := (gc.2 : Int)) (by unfold atI; rw [List.getElem?_map, hgc]; rfl)
            injection ef with ef1 ef2 ef3
            subst ef1
            clear ef2 ef3
            have HCA := Lib.hid (And.intro hbl3 hca)
            clear hca
            go_upto_region 13 with fail
            refine wp_region_held_drew (S := (fun w' => w'.cell? ⟨GT, 0, none⟩ = some (.int .i64 n1))) (by kernel_rfl) ?_ (fun hHeld => ?_)
            · exact y0
            refine wpAnyH_take (i := 0) (oi := { dst := some 72, op := Go.Op.move (Go.Operand.tmp 7), type := 49, pos := "ref.go:177", after := #[], guard := none }) (v := ?bv0) rfl (by kernel_rfl) (by kernel_rfl) (by kernel_rfl) (fun _ _ _ h => h) (Or.inl ⟨by rfl, ?by0⟩) (by assumption) ?br0
            case by0 => (intro w hSw; (try dsimp only at hSw); go_simp; try (with_reducible rfl))
            case br0 =>
            try simp only [Act.put, List.setIfInBounds_toArray, List.set_cons_zero, List.set_cons_succ]
            refine wpAnyH_take (i := 1) (oi := { dst := some 73, op := Go.Op.move (Go.Operand.tmp 10), type := 64, pos := "ref.go:177", after := #[], guard := none }) (v := ?bv1) rfl (by kernel_rfl) (by kernel_rfl) (by kernel_rfl) (fun _ _ _ h => h) (Or.inl ⟨by rfl, ?by1⟩) (by assumption) ?br1
            case by1 => (intro w hSw; (try dsimp only at hSw); go_simp; try (with_reducible rfl))
            case br1 =>
            try simp only [Act.put, List.setIfInBounds_toArray, List.set_cons_zero, List.set_cons_succ]
            refine wpAnyH_take (i := 3) (oi := { dst := some 75, op := Go.Op.fieldAddr 25 (Go.Operand.tmp 3) 0, type := 0, pos := "ref.go:177", after := #[], guard := none }) (v := ?bv3) rfl (by kernel_rfl) (by kernel_rfl) (by kernel_rfl) (fun _ _ _ h => h) (Or.inl ⟨by rfl, ?by3⟩) (by assumption) ?br3
            case by3 => (intro w hSw; (try dsimp only at hSw); go_simp; try (with_reducible rfl))
            case br3 =>
            try simp only [Act.put, List.setIfInBounds_toArray, List.set_cons_zero, List.set_cons_succ]
            refine wpAnyH_take (i := 4) (oi := { dst := some 76, op := Go.Op.load 2 (Go.Operand.tmp 75), type := 2, pos := "ref.go:177", after := #[{ on := 3, ground := Go.Ground.data }], guard := none }) (v := ?bv4) rfl (by kernel_rfl) (by kernel_rfl) (by kernel_rfl) (fun _ _ _ h => h) (Or.inl ⟨by rfl, ?by4⟩) (by assumption) ?br4
            case by4 => (intro w hSw; (try dsimp only at hSw); go_simp; try (with_reducible rfl))
            case br4 =>
            try simp only [Act.put, List.setIfInBounds_toArray, List.set_cons_zero, List.set_cons_succ]
            refine wpAnyH_ready (rs := [2]) (by kernel_rfl) (by simp) ?_
            refine AllReadyH.cons (o := { dst := some 74, op := Go.Op.call { callee := Go.Callee.value (Go.Operand.func 33), args := #[Go.Operand.tmp 72, Go.Operand.tmp 73], argTypes := #[49, 64] }, type := 2, pos := "ref.go:177", after := #[{ on := 0, ground := Go.Ground.data }, { on := 1, ground := Go.Ground.data }], guard := none }) rfl (fun K hK => ?_) (AllReadyH.nil)
            go_simp
            refine (HSU.out _ (Below.refl _ _).drew).mono ?_
            rintro e w6 ⟨rfl, hb6⟩
            go_simp
            refine hK.out _ _ ?_ (fun hHeld => ?_)
            · exact (hb6.cell (p := ⟨GT, 0, none⟩) GT5.out).trans y0
            clear hK K
            try simp only [Act.put, List.setIfInBounds_toArray, List.set_cons_zero, List.set_cons_succ]
            refine wpAnyH_take (i := 5) (oi := { dst := some 77, op := Go.Op.binOp Go.BinOp.lss 2 (Go.Operand.tmp 74) (Go.Operand.tmp 76) 2, type := 4, pos := "ref.go:177", after := #[{ on := 2, ground := Go.Ground.data }, { on := 4, ground := Go.Ground.data }], guard := none }) (v := ?b_2v5) rfl (by kernel_rfl) (by kernel_rfl) (by kernel_rfl) (fun _ _ _ h => h) (Or.inl ⟨by rfl, ?b_2y5⟩) (by assumption) ?b_2r5
            case b_2y5 => (intro w hSw; (try dsimp only at hSw); go_simp; try (with_reducible rfl))
            case b_2r5 =>
            try simp only [Act.put, List.setIfInBounds_toArray, List.set_cons_zero, List.set_cons_succ]
            refine wpAnyH_done (by kernel_rfl) ?_ _
            have z3 : w6.cell? ⟨b3, o3 + g, none⟩ = some (.int .i64 (gc.2 : Int)) := (hb6.cell (p := ⟨b3, o3 + g, none⟩) (show b3 < w5.drew.heap.size from Nat.lt_of_lt_of_le HCA.out.1 hb5.out.size)).trans HCA.out.2
            have BF := Lib.hid (BW.out.drew.trans (hb6.mono BW.out.drew.size))
            go_wp2_with fail
            go_ret2
            exact ⟨_, rfl, ints_more (ints_row (VRow.new w6 3 [.int .i64 (gc.2 : Int)])) (by simp), BF.out.alloc BF.out.size _⟩

        · have ds : decide (SL < n1) = false := decide_eq_false hsm
          have GT5 := Lib.hid (show GT < w5.drew.heap.size from Nat.lt_of_lt_of_le GTL.out hb5.out.size)
          have BW := Lib.hid (B4.out.trans (hb5.out.mono B4.out.size))
          have hR2 := HR.out
          rw [if_neg hsm] at hR2
          obtain ⟨BF, hBF⟩ : ∃ z, z = bestF rollF n1 L (roundsF (T : Int)) (L, SL) (seedF seed) := ⟨_, rfl⟩
          rw [← hBF] at hR2
          have HR := Lib.hid hR2
          have HBF := Lib.hid hBF
          have HLEN := Lib.hid (show L.length ≤ AC.length by rw [HLL.out]; exact List.length_filter_le _ _)
          clear hR2 hBF
          go_upto_region 13 with fail
          refine wp_region_held_drew (S := (fun w' => w'.cell? ⟨GT, 0, none⟩ = some (.int .i64 n1))) (by kernel_rfl) ?_ (fun hHeld => ?_)
          · exact y0
          refine wpAnyH_take (i := 0) (oi := { dst := some 72, op := Go.Op.move (Go.Operand.tmp 7), type := 49, pos := "ref.go:177", after := #[], guard := none }) (v := ?cv0) rfl (by kernel_rfl) (by kernel_rfl) (by kernel_rfl) (fun _ _ _ h => h) (Or.inl ⟨by rfl, ?cy0⟩) (by assumption) ?cr0
          case cy0 => (intro w hSw; (try dsimp only at hSw); go_simp; try (with_reducible rfl))
          case cr0 =>
          try simp only [Act.put, List.setIfInBounds_toArray, List.set_cons_zero, List.set_cons_succ]
          refine wpAnyH_take (i := 1) (oi := { dst := some 73, op := Go.Op.move (Go.Operand.tmp 10), type := 64, pos := "ref.go:177", after := #[], guard := none }) (v := ?cv1) rfl (by kernel_rfl) (by kernel_rfl) (by kernel_rfl) (fun _ _ _ h => h) (Or.inl ⟨by rfl, ?cy1⟩) (by assumption) ?cr1
          case cy1 => (intro w hSw; (try dsimp only at hSw); go_simp; try (with_reducible rfl))
          case cr1 =>
          try simp only [Act.put, List.setIfInBounds_toArray, List.set_cons_zero, List.set_cons_succ]
          refine wpAnyH_take (i := 3) (oi := { dst := some 75, op := Go.Op.fieldAddr 25 (Go.Operand.tmp 3) 0, type := 0, pos := "ref.go:177", after := #[], guard := none }) (v := ?cv3) rfl (by kernel_rfl) (by kernel_rfl) (by kernel_rfl) (fun _ _ _ h => h) (Or.inl ⟨by rfl, ?cy3⟩) (by assumption) ?cr3
          case cy3 => (intro w hSw; (try dsimp only at hSw); go_simp; try (with_reducible rfl))
          case cr3 =>
          try simp only [Act.put, List.setIfInBounds_toArray, List.set_cons_zero, List.set_cons_succ]
          refine wpAnyH_take (i := 4) (oi := { dst := some 76, op := Go.Op.load 2 (Go.Operand.tmp 75), type := 2, pos := "ref.go:177", after := #[{ on := 3, ground := Go.Ground.data }], guard := none }) (v := ?cv4) rfl (by kernel_rfl) (by kernel_rfl) (by kernel_rfl) (fun _ _ _ h => h) (Or.inl ⟨by rfl, ?cy4⟩) (by assumption) ?cr4
          case cy4 => (intro w hSw; (try dsimp only at hSw); go_simp; try (with_reducible rfl))
          case cr4 =>
          try simp only [Act.put, List.setIfInBounds_toArray, List.set_cons_zero, List.set_cons_succ]
          refine wpAnyH_ready (rs := [2]) (by kernel_rfl) (by simp) ?_
          refine AllReadyH.cons (o := { dst := some 74, op := Go.Op.call { callee := Go.Callee.value (Go.Operand.func 33), args := #[Go.Operand.tmp 72, Go.Operand.tmp 73], argTypes := #[49, 64] }, type := 2, pos := "ref.go:177", after := #[{ on := 0, ground := Go.Ground.data }, { on := 1, ground := Go.Ground.data }], guard := none }) rfl (fun K hK => ?_) (AllReadyH.nil)
          go_simp
          refine (HSU.out _ (Below.refl _ _).drew).mono ?_
          rintro e w6 ⟨rfl, hb6⟩
          go_simp
          refine hK.out _ _ ?_ (fun hHeld => ?_)
          · exact (hb6.cell (p := ⟨GT, 0, none⟩) GT5.out).trans y0
          clear hK K
          try simp only [Act.put, List.setIfInBounds_toArray, List.set_cons_zero, List.set_cons_succ]
          refine wpAnyH_take (i := 5) (oi := { dst := some 77, op := Go.Op.binOp Go.BinOp.lss 2 (Go.Operand.tmp 74) (Go.Operand.tmp 76) 2, type := 4, pos := "ref.go:177", after := #[{ on := 2, ground := Go.Ground.data }, { on := 4, ground := Go.Ground.data }], guard := none }) (v := ?c_2v5) rfl (by kernel_rfl) (by kernel_rfl) (by kernel_rfl) (fun _ _ _ h => h) (Or.inl ⟨by rfl, ?c_2y5⟩) (by assumption) ?c_2r5
          case c_2y5 => (intro w hSw; (try dsimp only at hSw); go_simp; try (with_reducible rfl))
          case c_2r5 =>
          try simp only [Act.put, List.setIfInBounds_toArray, List.set_cons_zero, List.set_cons_succ]
          refine wpAnyH_done (by kernel_rfl) ?_ _
          have b56 : Below w5.heap.size w5 w6 := (Below.refl _ _).drew.trans hb6
          have F6 := Lib.hid (HF2.out.below b56 HF2.out.lt)
          have B6 := Lib.hid (hb5.out.trans (b56.mono hb5.out.size))
          obtain ⟨sd, hsd⟩ : ∃ z, z = seedF seed := ⟨_, rfl⟩
          have z4 : w6.cell? ⟨GT, 4, none⟩ = some (.int .u64 seed) := (B6.out.cell (p := ⟨GT, 4, none⟩) GTL.out).trans HZ.out.2.2
          have HGW := Lib.hid (show GT < w6.heap.size from Nat.lt_of_lt_of_le GTL.out B6.out.size)
          obtain ⟨w7, hw7⟩ : ∃ z, z = w6.alloc (.cells #[] 4) := ⟨_, rfl⟩
          have b67 : Below w6.heap.size w6 w7 := by rw [hw7]; exact (Below.refl _ _).alloc (Nat.le_refl _) _
          have O7 := Lib.hid (show w7.ownsRow (GS + 1) 4 1 (.slice (some ⟨w6.heap.size, 0, none⟩) 0 0) 0 [] by rw [hw7]; exact World.ownsRow_made w6 #[] 0 F6.out.lt (by unfold maxLen; omega) rfl)
          have R7 := Lib.hid (show w7.rangeAt GS 0 ((smallB n1 AC).map Value.bool) from (F6.out.below b67 F6.out.lt).range (fun q v hv => by rw [Nat.zero_add]; exact hv))
          have L7 := Lib.hid (show ((smallB n1 AC).map Value.bool).length = n * 1 by rw [List.length_map, HSLN.out, Nat.mul_one])
          have K7 := Lib.hid (show ∀ u ∈ (smallB n1 AC).map Value.bool, u.oneCell' = true from fun u hu => by obtain ⟨q, _, rfl⟩ := List.mem_map.1 hu; rfl)
          have M7 := Lib.hid (show (0 + n) * 1 ≤ 140737488355328 by omega)
          have N7 := Lib.hid (show 0 + n ≤ maxLen by unfold maxLen; omega)
          have G7 := Lib.hid (show GS + 1 ≤ w7.heap.size from Nat.le_trans F6.out.lt b67.size)
          have HW7 := Lib.hid hw7
          have B67 := Lib.hid b67
          have HSD := Lib.hid hsd
          clear hw7 b67 b56 hb6 hsd y0 HSU
          go_upto_region 18 with (first
            | (at_builtin; rw [← HW7.out]; refine wpList_append_rows slt_bool rfl (.tmp 85) (.tmp 86) rfl (GS + 1) _ _ _ rfl O7.out GS 0 n n ((smallB n1 AC).map Value.bool) rfl L7.out R7.out K7.out M7.out N7.out G7.out ?_; intro v8 w8 hown8 hg8 ho8; obtain ⟨A8, c8, rfl⟩ := own_form hown8))
          have b78 : Below w6.heap.size w6 w8 := B67.out.grown hg8 B67.out.size (fun k hk => by injection hk with hk; exact Nat.le_of_eq hk)
          have D8 := Lib.hid (show Rd w4 GS n (smallB n1 AC) (.slice A8 n c8) (smallB n1 AC) w8 from ⟨F6.out.below b78 F6.out.lt, by (try rw [Nat.zero_add, List.nil_append] at hown8); exact hown8, B6.out.trans (b78.mono B6.out.size), by rw [HGS.out]; exact Nat.le_refl _⟩)
          have z5 : w8.cell? ⟨GT, 4, none⟩ = some (.int .u64 seed) := (b78.cell (p := ⟨GT, 4, none⟩) HGW.out).trans z4
          clear hown8 hg8 ho8 z4 b78 O7 R7 L7 K7 M7 N7 G7 HW7 B67
          have HD8 := D8
          go_upto_if 91 with fail
          go_cut [13] from 90 to 91 (fun s13 wx => s13 = .int .u64 sd ∧ Hid (wx = w8))
          case first =>
            by_cases h0 : seed = 0
            · have d0 : decide (seed = 0) = true := decide_eq_true h0
              have d1 : (seed == 0) = true := beq_iff_eq.2 h0
              have HS1 := Lib.hid (show sd = 1 by rw [HSD.out]; unfold seedF; rw [if_pos h0])
              clear h0
              go_wp2_with fail
              go_meet
              exact ⟨by rw [HS1.out], Lib.hid rfl⟩
            · have d0 : decide (seed = 0) = false := decide_eq_false h0
              have d1 : (seed == 0) = false := beq_eq_false_iff_ne.2 h0
              have HS1 := Lib.hid (show sd = seed by rw [HSD.out]; unfold seedF; rw [if_neg h0])
              clear h0
              go_wp2_with fail
              go_meet
              exact ⟨by rw [HS1.out], Lib.hid rfl⟩
          case rest =>
            obtain ⟨hs13, hwc⟩ := hcut
            subst hs13
            obtain rfl := hwc.out
            clear hwc z5
            obtain ⟨RN, hRN⟩ : ∃ z, z = roundsF (T : Int) := ⟨_, rfl⟩
            have hRN2 : RN ≤ T ∧ RN ≤ 200 ∧ (T ≤ RN ∨ 200 ≤ RN) := by rw [hRN]; unfold roundsF; split <;> omega
            have HB0 := Lib.hid (show BF = bestF rollF n1 L (RN - 0) (L, SL) sd by rw [HBF.out, hRN, HSD.out]; rfl)
            clear HBF hRN
            go_wp2_with fail
            go_loopw [12, 13, 14, 15, 16, 17, 18] (fun s12 s13 s14 s15 s16 s17 s18 wr => ∃ (j : Nat) (vb : Value) (b : List Cn × Int) (bs : List Bool) (x : Int), vb = s12 ∧ s13 = .int .u64 x ∧ j ≤ RN ∧ s14 = .int .i64 (j : Int) ∧ Hid (BF = bestF rollF n1 L (RN - j) b x) ∧ Hid ((pick AC bs).Perm b.1 ∧ sumD (pick AC bs) = b.2 ∧ bs.length = n) ∧ Hid (Rd w4 GS n (smallB n1 AC) vb bs wr)) (fun _ _ s14 _ _ _ _ _ => RN - (intOf s14).toNat)
            case atStart => exact ⟨0, _, (L, SL), smallB n1 AC, sd, rfl, rfl, Nat.zero_le _, rfl, HB0, Lib.hid ⟨by rw [pick_small, ← HLL.out], by rw [pick_small, ← HLL.out, HSL.out], HSLN.out⟩, D8⟩
            case round =>
              obtain ⟨j, vb, b, bs, x, hvb, rfl, hj, rfl, hbf, hbs, hD⟩ := hrel
              subst hvb
              obtain ⟨w9, rfl⟩ : ∃ z : World, z = wr := ⟨_, rfl⟩
              have y3 : w9.cell? ⟨GT, 3, none⟩ = some (.int .i64 (T : Int)) := (hD.out.t.cell (p := ⟨GT, 3, none⟩) GTL.out).trans HZ.out.2.1
              by_cases hlt : j < RN
              · have dT : decide ((j : Int) < (T : Int)) = true := decide_eq_true (by omega)
                have d200 : decide ((j : Int) < 200) = true := decide_eq_true (by omega)
                have hmk := make_flags n (by omega) w9
                have hK0 := hD.out.make (flags 0 n)
                obtain ⟨WM, hWM⟩ : ∃ z, z = w9.alloc (.cells ((flags 0 n).map Value.bool).toArray 4) := ⟨_, rfl⟩
                rw [← hWM] at hK0
                obtain ⟨GK, hGK⟩ : ∃ z, z = w9.heap.size := ⟨_, rfl⟩
                rw [← hGK] at hK0
                have HK0 := Lib.hid hK0
                have HWM := Lib.hid hWM
                have HGK := Lib.hid hGK
                have HNX := Lib.hid (hbf.out.trans (best_next (need := n1) (x := x) (l := L) hlt b))
                have hb2 : b.2 ≤ endless := by have h1 := hbs.out.2.1; have h2 := (pick_bd AC bs HP.out).2; have h3 := HSM.out; unfold endless; omega
                have HRL := Lib.hid (show Rel AC att0 b (flags 0 n) bs false from Rel.start (by rw [flags_length (Nat.zero_le _)]; exact HN.out) (by rw [HN.out]; exact pick_flags0 AC) (by rw [hbs.out.2.2]; exact HN.out) hbs.out.1 hbs.out.2.1 hb2)
                clear hK0 hWM hGK hbf hb2 hD
                go_upto_region 25 with fail
                change Code.wp _ _ _ _ (w9.alloc (.cells ((flags 0 n).map Value.bool).toArray 4))
                rw [← HWM.out, ← HGK.out]
                clear HWM HGK hmk y3 dT d200
                go_wp2_with fail
                go_loopw [12, 13, 16, 17, 18] (fun s12 s13 s16 s17 s18 wp => ∃ (p : Nat) (vb' : Value) (x' : Int) (rd : Bool) (f bs' : List Bool) (S : Att), vb' = s12 ∧ s13 = .int .u64 x' ∧ s16 = .bool rd ∧ p ≤ 2 ∧ s17 = .int .i64 (p : Int) ∧ Hid (Rk w4 GS n (smallB n1 AC) vb' bs' GK f wp) ∧ Hid (Rel AC S b f bs' rd) ∧ Hid (Stg n1 AC L x p rd S x' f)) (fun _ _ _ s17 _ _ => 2 - (intOf s17).toNat)
                case atStart => exact ⟨0, vb, x, false, flags 0 n, bs, att0, rfl, rfl, rfl, by omega, rfl, HK0, HRL, Lib.hid (.inl ⟨rfl, rfl, by rw [HN.out], rfl, rfl⟩)⟩
                case round =>
                  obtain ⟨p, vb', x', rd, f, bs', S, hvb', rfl, rfl, hp2, rfl, hK, hL, hS⟩ := hrel
                  subst hvb'
                  obtain ⟨w10, rfl⟩ : ∃ z : World, z = wr := ⟨_, rfl⟩
                  rcases hS.out with ⟨rfl, rfl, rfl, hx0, rfl⟩ | ⟨rfl, rfl, rfl, hO⟩ | ⟨rfl, rfl, rfl⟩
                  · obtain rfl := hx0.symm
                    clear hS
                    rw [show ((0 : Nat) : Int) = 0 from rfl]
                    go_wp2_with fail
                    go_loopw [12, 13, 16, 18] (fun s12 s13 s16 s18 wi => ∃ (i : Nat) (vb2 : Value) (rd2 : Bool) (f2 bs2 : List Bool) (T2 : Pass), vb2 = s12 ∧ s13 = .int .u64 T2.x ∧ s16 = .bool rd2 ∧ i ≤ n ∧ s18 = .int .i64 (i : Int) ∧ Hid (Rk w4 GS n (smallB n1 AC) vb2 bs2 GK f2 wi) ∧ Hid (Rel AC T2.S b f2 bs2 rd2) ∧ Hid (T2 = passF rollF n1 x ((AC.take i).filter (small n1)) ∧ (rd2 = false → T2.O = oth n1 AC f2 i) ∧ f2.drop i = (flags 0 n).drop i)) (fun _ _ _ s18 _ => n - (intOf s18).toNat)
                    case atStart => exact ⟨0, vb', false, flags 0 AC.length, bs', ⟨att0, [], x⟩, rfl, rfl, rfl, Nat.zero_le _, rfl, hK, hL, Lib.hid ⟨rfl, fun _ => (oth_zero _ _ _).symm, by rw [HN.out]⟩⟩
                    case round =>
                      obtain ⟨i, vb2, rd2, f2, bs2, T2, hvb2, rfl, rfl, hi, rfl, hK2, hL2, hT2⟩ := hrel
                      subst hvb2
                      obtain ⟨w11, rfl⟩ : ∃ z : World, z = wr := ⟨_, rfl⟩
                      by_cases hil : i < n
                      · have dil : decide ((i : Int) < (n : Int)) = true := decide_eq_true (by omega)
                        obtain ⟨y, hy⟩ : ∃ y, AC[i]? = some y := ⟨_, List.getElem?_eq_getElem (by rw [← HN.out]; exact hil)⟩
                        have hyp := HP.out y (List.mem_of_getElem? hy)
                        have cs : w11.cell? ⟨GS, i, none⟩ = some (.bool (small n1 y)) := hK2.out.s.cell (by rw [List.getElem?_map, smallB_at hy]; rfl)
                        have hf2 : f2[i]? = some false := by rw [drop_get hT2.out.2.2]; exact flags0_at hil
                        have ck : w11.cell? ⟨GK, i, none⟩ = some (.bool false) := hK2.out.k.cell (by rw [List.getElem?_map, hf2]; rfl)
                        have hlf := hL2.out.lf
                        by_cases hs : y.1 < n1
                        · rw [show small n1 y = true from decide_eq_true hs] at cs
                          have hpn := pass_small (x := x) hy hs
                          rw [← hT2.out.1] at hpn
                          by_cases hr : 9223372036854775808 ≤ rollF T2.x
                          · have dr : decide (rollF T2.x < 9223372036854775808) = false := decide_eq_false (by omega)
                            have HPN := Lib.hid (hpn.trans (show passA rollF n1 T2 y = ⟨pickA n1 T2.S y, T2.O, rollF T2.x⟩ from if_pos hr))
                            clear hr hpn hs
                            have hok : AtOk 40 T2.S := by have q := pass_ok rollF n1 x (l := (AC.take i).filter (small n1)) (fun c hc => HP.out c (List.mem_of_mem_take (List.mem_filter.1 hc).1)); rw [← hT2.out.1] at q; exact q.s.more (by have h1 := List.length_filter_le (small n1) (AC.take i); rw [List.length_take] at h1; omega)
                            have hsb := hok.sum
                            have hps : sumD (pick AC (f2.set i true)) = sumD T2.S.P + y.1 := by rw [pick_set_sum hy hf2, hL2.out.sum]
                            obtain ⟨s, hss⟩ : ∃ z, z = sumD T2.S.P + y.1 := ⟨_, rfl⟩
                            rw [← hss] at hps
                            have hse : s < endless := by unfold endless; omega
                            obtain ⟨sb, hsbb⟩ : ∃ z, z = sumD (pick AC bs2) := ⟨_, rfl⟩
                            obtain ⟨Av, cv, hform⟩ := own_form hK2.out.b
                            subst hform
                            have hK6 := hK2.out.set i true
                            have cfk : w11.cell? ⟨GK, i, none⟩ = some (.bool false) := ck
                            have ffk := hK2.out.k.free i
                            obtain ⟨w12, hw12⟩ : ∃ z, z = w11.setCell ⟨GK, i, none⟩ (.bool true) := ⟨_, rfl⟩
                            rw [← hw12] at hK6
                            have lf2 : (f2.set i true).length = n := by rw [List.length_set, hL2.out.lf, HN.out]
                            have lb2 : bs2.length = n := by rw [hL2.out.lb, HN.out]
                            have su1 := fun W (h : Below w12.heap.size w12 W) => rsum_any W.heap.size (.slice Aw n cw) (.slice (some ⟨GK, 0, none⟩) n n) AC (f2.set i true) W (Ints.keepB HIW.out (hK6.t.trans (h.mono hK6.t.size))) ((flr_row (hK6.k.below h hK6.k.lt) lf2 (by omega)).more (Nat.lt_of_lt_of_le hK6.k.lt h.size)) (by rw [lf2]; exact HN.out.symm) (Nat.le_refl _) HP.out HSM.out (by rw [← HN.out]; exact hl19)
                            have su2 := fun W (h : Below w12.heap.size w12 W) => rsum_any W.heap.size (.slice Aw n cw) (.slice Av n cv) AC bs2 W (Ints.keepB HIW.out (hK6.t.trans (h.mono hK6.t.size))) (show FlR W W.heap.size (.slice Av n cv) bs2 by have q := RowR.of_own (own_below hK6.b h); unfold FlR; rw [lb2]; exact q) (by rw [lb2]; exact HN.out.symm) (Nat.le_refl _) HP.out HSM.out (by rw [← HN.out]; exact hl19)
                            simp only [hps] at su1
                            simp only [← hsbb] at su2
                            have y0 : w12.cell? ⟨GT, 0, none⟩ = some (.int .i64 n1) := (hK6.t.cell (p := ⟨GT, 0, none⟩) GTL.out).trans HZ.out.1
                            have GTW := Lib.hid (show GT < w12.drew.heap.size from Nat.lt_of_lt_of_le GTL.out hK6.t.size)
                            have SU1 := Lib.hid su1
                            have SU2 := Lib.hid su2
                            have K6 := Lib.hid hK6
                            have HW12 := Lib.hid hw12
                            have HSS := Lib.hid hss
                            have HSE := Lib.hid hse
                            have HSBB := Lib.hid hsbb
                            have HY := Lib.hid hy
                            have HF2 := Lib.hid hf2
                            have HLF := Lib.hid lf2
                            clear su1 su2 hK6 hw12 hss hse hsbb hy hf2 lf2 lb2 hps hsb hok
                            go_upto_region 37 with (first | (go_at_call 35; refine (turn_any _ _).mono ?_; rintro e w' ⟨rfl, hw'⟩; obtain rfl := hw'.symm))
                            change Code.wp _ _ _ _ (w11.setCell ⟨GK, i, none⟩ (.bool true))
                            rw [← HW12.out]
                            clear HW12 cfk ffk ck cs
                            by_cases hu : s < n1
                            · as_aux_lemma =>
                              have du : decide (n1 ≤ s) = false := decide_eq_false (by omega)
                              refine wp_region_held_drew (S := (fun w' => w'.cell? ⟨GT, 0, none⟩ = some (.int .i64 n1))) (by kernel_rfl) ?_ (fun hHeld => ?_)
                              · exact y0
                              refine wpAnyH_take (i := 0) (oi := { dst := some 139, op := Go.Op.move (Go.Operand.tmp 7), type := 49, pos := "ref.go:203", after := #[], guard := none }) (v := ?p0uv0) rfl (by kernel_rfl) (by kernel_rfl) (by kernel_rfl) (fun _ _ _ h => h) (Or.inl ⟨by rfl, ?p0uy0⟩) (by assumption) ?p0ur0
                              case p0uy0 => (intro w hSw; (try dsimp only at hSw); go_simp; try (with_reducible rfl))
                              case p0ur0 =>
                              try simp only [Act.put, List.setIfInBounds_toArray, List.set_cons_zero, List.set_cons_succ]
                              refine wpAnyH_take (i := 1) (oi := { dst := some 140, op := Go.Op.move (Go.Operand.tmp 15), type := 64, pos := "ref.go:203", after := #[], guard := none }) (v := ?p0uv1) rfl (by kernel_rfl) (by kernel_rfl) (by kernel_rfl) (fun _ _ _ h => h) (Or.inl ⟨by rfl, ?p0uy1⟩) (by assumption) ?p0ur1
                              case p0uy1 => (intro w hSw; (try dsimp only at hSw); go_simp; try (with_reducible rfl))
                              case p0ur1 =>
                              try simp only [Act.put, List.setIfInBounds_toArray, List.set_cons_zero, List.set_cons_succ]
                              refine wpAnyH_take (i := 3) (oi := { dst := some 142, op := Go.Op.fieldAddr 25 (Go.Operand.tmp 3) 0, type := 0, pos := "ref.go:203", after := #[], guard := none }) (v := ?p0uv3) rfl (by kernel_rfl) (by kernel_rfl) (by kernel_rfl) (fun _ _ _ h => h) (Or.inl ⟨by rfl, ?p0uy3⟩) (by assumption) ?p0ur3
                              case p0uy3 => (intro w hSw; (try dsimp only at hSw); go_simp; try (with_reducible rfl))
                              case p0ur3 =>
                              try simp only [Act.put, List.setIfInBounds_toArray, List.set_cons_zero, List.set_cons_succ]
                              refine wpAnyH_take (i := 4) (oi := { dst := some 143, op := Go.Op.load 2 (Go.Operand.tmp 142), type := 2, pos := "ref.go:203", after := #[{ on := 3, ground := Go.Ground.data }], guard := none }) (v := ?p0uv4) rfl (by kernel_rfl) (by kernel_rfl) (by kernel_rfl) (fun _ _ _ h => h) (Or.inl ⟨by rfl, ?p0uy4⟩) (by assumption) ?p0ur4
                              case p0uy4 => (intro w hSw; (try dsimp only at hSw); go_simp; try (with_reducible rfl))
                              case p0ur4 =>
                              try simp only [Act.put, List.setIfInBounds_toArray, List.set_cons_zero, List.set_cons_succ]
                              refine wpAnyH_ready (rs := [2]) (by kernel_rfl) (by simp) ?_
                              refine AllReadyH.cons (o := { dst := some 141, op := Go.Op.call { callee := Go.Callee.value (Go.Operand.func 33), args := #[Go.Operand.tmp 139, Go.Operand.tmp 140], argTypes := #[49, 64] }, type := 2, pos := "ref.go:203", after := #[{ on := 0, ground := Go.Ground.data }, { on := 1, ground := Go.Ground.data }], guard := none }) rfl (fun K hK => ?_) (AllReadyH.nil)
                              go_simp
                              refine (SU1.out _ (Below.refl _ _).drew).mono ?_
                              rintro e w13 ⟨rfl, hb13⟩
                              go_simp
                              refine hK.out _ _ ?_ (fun hHeld => ?_)
                              · exact (hb13.cell (p := ⟨GT, 0, none⟩) GTW.out).trans y0
                              clear hK K
                              try simp only [Act.put, List.setIfInBounds_toArray, List.set_cons_zero, List.set_cons_succ]
                              refine wpAnyH_take (i := 5) (oi := { dst := some 144, op := Go.Op.binOp Go.BinOp.geq 2 (Go.Operand.tmp 141) (Go.Operand.tmp 143) 2, type := 4, pos := "ref.go:203", after := #[{ on := 2, ground := Go.Ground.data }, { on := 4, ground := Go.Ground.data }], guard := none }) (v := ?p0u_2v5) rfl (by kernel_rfl) (by kernel_rfl) (by kernel_rfl) (fun _ _ _ h => h) (Or.inl ⟨by rfl, ?p0u_2y5⟩) (by assumption) ?p0u_2r5
                              case p0u_2y5 => (intro w hSw; (try dsimp only at hSw); go_simp; try (with_reducible rfl))
                              case p0u_2r5 =>
                              try simp only [Act.put, List.setIfInBounds_toArray, List.set_cons_zero, List.set_cons_succ]
                              refine wpAnyH_done (by kernel_rfl) ?_ _
                              have b13 : Below w12.heap.size w12 w13 := (Below.refl _ _).drew.trans hb13
                              have B13 := Lib.hid b13
                              have K7 := Lib.hid (K6.out.below b13)
                              clear b13 hb13 y0
                              have HU := Lib.hid (show sumD T2.S.P + y.1 < n1 by rw [← HSS.out]; exact hu)
                              clear hu
                              go_wp2_with fail
                              exact ⟨⟨i + 1, .slice Av n cv, rd2, f2.set i true, bs2, ⟨pickA n1 T2.S y, T2.O, rollF T2.x⟩, rfl, rfl, rfl, hil, by first | rfl | exact next (by omega), K7, Lib.hid (hL2.out.under HY.out HF2.out HU.out), Lib.hid ⟨HPN.out.symm, fun h => by rw [oth_put hL2.out.lf HY.out HF2.out]; exact hT2.out.2.1 h, by rw [set_drop]; exact drop_more hT2.out.2.2⟩⟩, by first | exact meas hil (by omega) | (show n - ((i : Int) + 1).toNat < n - (i : Int).toNat; omega)⟩
                            · have du : decide (n1 ≤ s) = true := decide_eq_true (by omega)
                              have HU := Lib.hid (show ¬ sumD T2.S.P + y.1 < n1 by rw [← HSS.out]; exact hu)
                              have hrel2 := hL2.out.over HY.out HF2.out HU.out (by rw [← HSS.out]; exact HSE.out)
                              rw [← HSS.out, ← HSBB.out] at hrel2
                              clear hu
                              by_cases hb : s < sb
                              · as_aux_lemma =>
                                rw [if_pos hb] at hrel2
                                have HRL2 := Lib.hid hrel2
                                have db : decide (s < sb) = true := decide_eq_true hb
                                clear hb hrel2
                                refine wp_region_held_drew (S := (fun w' => w'.cell? ⟨GT, 0, none⟩ = some (.int .i64 n1))) (by kernel_rfl) ?_ (fun hHeld => ?_)
                                · exact y0
                                refine wpAnyH_take (i := 0) (oi := { dst := some 139, op := Go.Op.move (Go.Operand.tmp 7), type := 49, pos := "ref.go:203", after := #[], guard := none }) (v := ?p0lv0) rfl (by kernel_rfl) (by kernel_rfl) (by kernel_rfl) (fun _ _ _ h => h) (Or.inl ⟨by rfl, ?p0ly0⟩) (by assumption) ?p0lr0
                                case p0ly0 => (intro w hSw; (try dsimp only at hSw); go_simp; try (with_reducible rfl))
                                case p0lr0 =>
                                try simp only [Act.put, List.setIfInBounds_toArray, List.set_cons_zero, List.set_cons_succ]
                                refine wpAnyH_take (i := 1) (oi := { dst := some 140, op := Go.Op.move (Go.Operand.tmp 15), type := 64, pos := "ref.go:203", after := #[], guard := none }) (v := ?p0lv1) rfl (by kernel_rfl) (by kernel_rfl) (by kernel_rfl) (fun _ _ _ h => h) (Or.inl ⟨by rfl, ?p0ly1⟩) (by assumption) ?p0lr1
                                case p0ly1 => (intro w hSw; (try dsimp only at hSw); go_simp; try (with_reducible rfl))
                                case p0lr1 =>
                                try simp only [Act.put, List.setIfInBounds_toArray, List.set_cons_zero, List.set_cons_succ]
                                refine wpAnyH_take (i := 3) (oi := { dst := some 142, op := Go.Op.fieldAddr 25 (Go.Operand.tmp 3) 0, type := 0, pos := "ref.go:203", after := #[], guard := none }) (v := ?p0lv3) rfl (by kernel_rfl) (by kernel_rfl) (by kernel_rfl) (fun _ _ _ h => h) (Or.inl ⟨by rfl, ?p0ly3⟩) (by assumption) ?p0lr3
                                case p0ly3 => (intro w hSw; (try dsimp only at hSw); go_simp; try (with_reducible rfl))
                                case p0lr3 =>
                                try simp only [Act.put, List.setIfInBounds_toArray, List.set_cons_zero, List.set_cons_succ]
                                refine wpAnyH_take (i := 4) (oi := { dst := some 143, op := Go.Op.load 2 (Go.Operand.tmp 142), type := 2, pos := "ref.go:203", after := #[{ on := 3, ground := Go.Ground.data }], guard := none }) (v := ?p0lv4) rfl (by kernel_rfl) (by kernel_rfl) (by kernel_rfl) (fun _ _ _ h => h) (Or.inl ⟨by rfl, ?p0ly4⟩) (by assumption) ?p0lr4
                                case p0ly4 => (intro w hSw; (try dsimp only at hSw); go_simp; try (with_reducible rfl))
                                case p0lr4 =>
                                try simp only [Act.put, List.setIfInBounds_toArray, List.set_cons_zero, List.set_cons_succ]
                                refine wpAnyH_ready (rs := [2]) (by kernel_rfl) (by simp) ?_
                                refine AllReadyH.cons (o := { dst := some 141, op := Go.Op.call { callee := Go.Callee.value (Go.Operand.func 33), args := #[Go.Operand.tmp 139, Go.Operand.tmp 140], argTypes := #[49, 64] }, type := 2, pos := "ref.go:203", after := #[{ on := 0, ground := Go.Ground.data }, { on := 1, ground := Go.Ground.data }], guard := none }) rfl (fun K hK => ?_) (AllReadyH.nil)
                                go_simp
                                refine (SU1.out _ (Below.refl _ _).drew).mono ?_
                                rintro e w13 ⟨rfl, hb13⟩
                                go_simp
                                refine hK.out _ _ ?_ (fun hHeld => ?_)
                                · exact (hb13.cell (p := ⟨GT, 0, none⟩) GTW.out).trans y0
                                clear hK K
                                try simp only [Act.put, List.setIfInBounds_toArray, List.set_cons_zero, List.set_cons_succ]
                                refine wpAnyH_take (i := 5) (oi := { dst := some 144, op := Go.Op.binOp Go.BinOp.geq 2 (Go.Operand.tmp 141) (Go.Operand.tmp 143) 2, type := 4, pos := "ref.go:203", after := #[{ on := 2, ground := Go.Ground.data }, { on := 4, ground := Go.Ground.data }], guard := none }) (v := ?p0l_2v5) rfl (by kernel_rfl) (by kernel_rfl) (by kernel_rfl) (fun _ _ _ h => h) (Or.inl ⟨by rfl, ?p0l_2y5⟩) (by assumption) ?p0l_2r5
                                case p0l_2y5 => (intro w hSw; (try dsimp only at hSw); go_simp; try (with_reducible rfl))
                                case p0l_2r5 =>
                                try simp only [Act.put, List.setIfInBounds_toArray, List.set_cons_zero, List.set_cons_succ]
                                refine wpAnyH_done (by kernel_rfl) ?_ _
                                have b13 : Below w12.heap.size w12 w13 := (Below.refl _ _).drew.trans hb13
                                have B13 := Lib.hid b13
                                have K7 := Lib.hid (K6.out.below b13)
                                clear b13 hb13 y0
                                go_upto_region 40 with (first
                                  | (go_at_call 33; refine (SU2.out _ (B13.out.trans (hb14.mono B13.out.size))).mono ?_; rintro e w15 ⟨rfl, hb15⟩)
                                  | (go_at_call 33; refine (SU1.out _ B13.out).mono ?_; rintro e w14 ⟨rfl, hb14⟩))
                                have K15 := Lib.hid ((K7.out.below hb14).below hb15)
                                obtain ⟨w16, hw16⟩ : ∃ z, z = w15.alloc (.cells #[] 4) := ⟨_, rfl⟩
                                have b16 : Below w15.heap.size w15 w16 := by rw [hw16]; exact (Below.refl _ _).alloc (Nat.le_refl _) _
                                have O16 := Lib.hid (show w16.ownsRow (GS + 1) 4 1 (.slice (some ⟨w15.heap.size, 0, none⟩) 0 0) 0 [] by rw [hw16]; exact World.ownsRow_made w15 #[] 0 K15.out.s.lt (by unfold maxLen; omega) rfl)
                                have R16 := Lib.hid (show w16.rangeAt GK 0 ((f2.set i true).map Value.bool) from (K15.out.k.below b16 K15.out.k.lt).range (fun q v hv => by rw [Nat.zero_add]; exact hv))
                                have L16 := Lib.hid (show ((f2.set i true).map Value.bool).length = n * 1 by rw [List.length_map, HLF.out, Nat.mul_one])
                                have Q16 := Lib.hid (show ∀ u ∈ (f2.set i true).map Value.bool, u.oneCell' = true from fun u hu => by obtain ⟨q, _, rfl⟩ := List.mem_map.1 hu; rfl)
                                have M16 := Lib.hid (show (0 + n) * 1 ≤ 140737488355328 by omega)
                                have N16 := Lib.hid (show 0 + n ≤ maxLen by unfold maxLen; omega)
                                have G16 := Lib.hid (show GS + 1 ≤ w16.heap.size from Nat.le_trans K15.out.s.lt b16.size)
                                have HW16 := Lib.hid hw16
                                have B16 := Lib.hid b16
                                clear hw16 b16 hb14 hb15
                                go_upto_region 41 with (first
                                  | (at_builtin; rw [← HW16.out]; refine wpList_append_rows slt_bool rfl (.tmp 152) (.tmp 153) rfl (GS + 1) _ _ _ rfl O16.out GK 0 n n ((f2.set i true).map Value.bool) rfl L16.out R16.out Q16.out M16.out N16.out G16.out ?_; intro v17 w17 hown17 hg17 ho17; obtain ⟨A17, c17, rfl⟩ := own_form hown17))
                                have b17 : Below w15.heap.size w15 w17 := B16.out.grown hg17 B16.out.size (fun k hk => by injection hk with hk; exact Nat.le_of_eq hk)
                                have hK17 : Rk w4 GS n (smallB n1 AC) (.slice A17 n c17) (f2.set i true) GK (f2.set i true) w17 := K15.out.copy (by (try rw [Nat.zero_add, List.nil_append] at hown17); exact hown17) b17 (v0 := .slice (some ⟨w15.heap.size, 0, none⟩) 0 0) (fun q hq => by injection hq with hq; exact Nat.le_of_eq hq) B16.out.size (by (try rw [Nat.zero_add] at ho17); exact ho17)
                                have hK18 := hK17.set i false
                                rw [set_back HF2.out] at hK18
                                have c17' : w17.cell? ⟨GK, i, none⟩ = some (.bool true) := hK17.k.cell (by rw [List.getElem?_map, List.getElem?_set_self (List.getElem?_eq_some_iff.1 HF2.out).1]; rfl)
                                have f17' := hK17.k.free i
                                have K18 := Lib.hid hK18
                                clear hown17 hg17 ho17 b17 hK17 hK18
                                go_wp2_with fail
                                exact ⟨⟨i + 1, .slice A17 n c17, true, f2, f2.set i true, ⟨pickA n1 T2.S y, T2.O, rollF T2.x⟩, rfl, rfl, rfl, hil, by first | rfl | exact next (by omega), K18, HRL2, Lib.hid ⟨HPN.out.symm, fun h => (by cases h), drop_more hT2.out.2.2⟩⟩, by first | exact meas hil (by omega) | (show n - ((i : Int) + 1).toNat < n - (i : Int).toNat; omega)⟩
                              · as_aux_lemma =>
                                rw [if_neg hb] at hrel2
                                have HRL2 := Lib.hid hrel2
                                have db : decide (s < sb) = false := decide_eq_false hb
                                clear hb hrel2
                                refine wp_region_held_drew (S := (fun w' => w'.cell? ⟨GT, 0, none⟩ = some (.int .i64 n1))) (by kernel_rfl) ?_ (fun hHeld => ?_)
                                · exact y0
                                refine wpAnyH_take (i := 0) (oi := { dst := some 139, op := Go.Op.move (Go.Operand.tmp 7), type := 49, pos := "ref.go:203", after := #[], guard := none }) (v := ?p0gv0) rfl (by kernel_rfl) (by kernel_rfl) (by kernel_rfl) (fun _ _ _ h => h) (Or.inl ⟨by rfl, ?p0gy0⟩) (by assumption) ?p0gr0
                                case p0gy0 => (intro w hSw; (try dsimp only at hSw); go_simp; try (with_reducible rfl))
                                case p0gr0 =>
                                try simp only [Act.put, List.setIfInBounds_toArray, List.set_cons_zero, List.set_cons_succ]
                                refine wpAnyH_take (i := 1) (oi := { dst := some 140, op := Go.Op.move (Go.Operand.tmp 15), type := 64, pos := "ref.go:203", after := #[], guard := none }) (v := ?p0gv1) rfl (by kernel_rfl) (by kernel_rfl) (by kernel_rfl) (fun _ _ _ h => h) (Or.inl ⟨by rfl, ?p0gy1⟩) (by assumption) ?p0gr1
                                case p0gy1 => (intro w hSw; (try dsimp only at hSw); go_simp; try (with_reducible rfl))
                                case p0gr1 =>
                                try simp only [Act.put, List.setIfInBounds_toArray, List.set_cons_zero, List.set_cons_succ]
                                refine wpAnyH_take (i := 3) (oi := { dst := some 142, op := Go.Op.fieldAddr 25 (Go.Operand.tmp 3) 0, type := 0, pos := "ref.go:203", after := #[], guard := none }) (v := ?p0gv3) rfl (by kernel_rfl) (by kernel_rfl) (by kernel_rfl) (fun _ _ _ h => h) (Or.inl ⟨by rfl, ?p0gy3⟩) (by assumption) ?p0gr3
                                case p0gy3 => (intro w hSw; (try dsimp only at hSw); go_simp; try (with_reducible rfl))
                                case p0gr3 =>
                                try simp only [Act.put, List.setIfInBounds_toArray, List.set_cons_zero, List.set_cons_succ]
                                refine wpAnyH_take (i := 4) (oi := { dst := some 143, op := Go.Op.load 2 (Go.Operand.tmp 142), type := 2, pos := "ref.go:203", after := #[{ on := 3, ground := Go.Ground.data }], guard := none }) (v := ?p0gv4) rfl (by kernel_rfl) (by kernel_rfl) (by kernel_rfl) (fun _ _ _ h => h) (Or.inl ⟨by rfl, ?p0gy4⟩) (by assumption) ?p0gr4
                                case p0gy4 => (intro w hSw; (try dsimp only at hSw); go_simp; try (with_reducible rfl))
                                case p0gr4 =>
                                try simp only [Act.put, List.setIfInBounds_toArray, List.set_cons_zero, List.set_cons_succ]
                                refine wpAnyH_ready (rs := [2]) (by kernel_rfl) (by simp) ?_
                                refine AllReadyH.cons (o := { dst := some 141, op := Go.Op.call { callee := Go.Callee.value (Go.Operand.func 33), args := #[Go.Operand.tmp 139, Go.Operand.tmp 140], argTypes := #[49, 64] }, type := 2, pos := "ref.go:203", after := #[{ on := 0, ground := Go.Ground.data }, { on := 1, ground := Go.Ground.data }], guard := none }) rfl (fun K hK => ?_) (AllReadyH.nil)
                                go_simp
                                refine (SU1.out _ (Below.refl _ _).drew).mono ?_
                                rintro e w13 ⟨rfl, hb13⟩
                                go_simp
                                refine hK.out _ _ ?_ (fun hHeld => ?_)
                                · exact (hb13.cell (p := ⟨GT, 0, none⟩) GTW.out).trans y0
                                clear hK K
                                try simp only [Act.put, List.setIfInBounds_toArray, List.set_cons_zero, List.set_cons_succ]
                                refine wpAnyH_take (i := 5) (oi := { dst := some 144, op := Go.Op.binOp Go.BinOp.geq 2 (Go.Operand.tmp 141) (Go.Operand.tmp 143) 2, type := 4, pos := "ref.go:203", after := #[{ on := 2, ground := Go.Ground.data }, { on := 4, ground := Go.Ground.data }], guard := none }) (v := ?p0g_2v5) rfl (by kernel_rfl) (by kernel_rfl) (by kernel_rfl) (fun _ _ _ h => h) (Or.inl ⟨by rfl, ?p0g_2y5⟩) (by assumption) ?p0g_2r5
                                case p0g_2y5 => (intro w hSw; (try dsimp only at hSw); go_simp; try (with_reducible rfl))
                                case p0g_2r5 =>
                                try simp only [Act.put, List.setIfInBounds_toArray, List.set_cons_zero, List.set_cons_succ]
                                refine wpAnyH_done (by kernel_rfl) ?_ _
                                have b13 : Below w12.heap.size w12 w13 := (Below.refl _ _).drew.trans hb13
                                have B13 := Lib.hid b13
                                have K7 := Lib.hid (K6.out.below b13)
                                clear b13 hb13 y0
                                go_upto_region 41 with (first
                                  | (go_at_call 33; refine (SU2.out _ (B13.out.trans (hb14.mono B13.out.size))).mono ?_; rintro e w15 ⟨rfl, hb15⟩)
                                  | (go_at_call 33; refine (SU1.out _ B13.out).mono ?_; rintro e w14 ⟨rfl, hb14⟩))
                                have hK15 := (K7.out.below hb14).below hb15
                                have hK18 := hK15.set i false
                                rw [set_back HF2.out] at hK18
                                have c17' : w15.cell? ⟨GK, i, none⟩ = some (.bool true) := hK15.k.cell (by rw [List.getElem?_map, List.getElem?_set_self (List.getElem?_eq_some_iff.1 HF2.out).1]; rfl)
                                have f17' := hK15.k.free i
                                have K18 := Lib.hid hK18
                                clear hb14 hb15 hK15 hK18
                                go_wp2_with fail
                                exact ⟨⟨i + 1, .slice Av n cv, true, f2, bs2, ⟨pickA n1 T2.S y, T2.O, rollF T2.x⟩, rfl, rfl, rfl, hil, by first | rfl | exact next (by omega), K18, HRL2, Lib.hid ⟨HPN.out.symm, fun h => (by cases h), drop_more hT2.out.2.2⟩⟩, by first | exact meas hil (by omega) | (show n - ((i : Int) + 1).toNat < n - (i : Int).toNat; omega)⟩
                          · as_aux_lemma =>
                            have dr : decide (rollF T2.x < 9223372036854775808) = true := decide_eq_true (by omega)
                            have HPN := Lib.hid (hpn.trans (show passA rollF n1 T2 y = ⟨T2.S, T2.O ++ [y], rollF T2.x⟩ from if_neg hr))
                            have HO2 := Lib.hid (show rd2 = false → T2.O ++ [y] = oth n1 AC f2 (i + 1) from fun h => by rw [oth_left hlf hy hf2 hs, ← hT2.out.2.1 h])
                            have HDR := Lib.hid (drop_more hT2.out.2.2)
                            clear hr hpn hs hy hf2 hlf
                            go_wp2_with (first | (go_at_call 35; refine (turn_any _ _).mono ?_; rintro e w' ⟨rfl, hw'⟩; obtain rfl := hw'.symm))
                            exact ⟨⟨i + 1, vb2, rd2, f2, bs2, ⟨T2.S, T2.O ++ [y], rollF T2.x⟩, rfl, rfl, rfl, hil, by first | rfl | exact next (by omega), hK2, hL2, Lib.hid ⟨HPN.out.symm, HO2.out, HDR.out⟩⟩, by first | exact meas hil (by omega) | (show n - ((i : Int) + 1).toNat < n - (i : Int).toNat; omega)⟩
                        · as_aux_lemma =>
                          rw [show small n1 y = false from decide_eq_false hs] at cs
                          have HPN := Lib.hid ((pass_great (x := x) hy hs).trans hT2.out.1.symm)
                          have HO2 := Lib.hid (show rd2 = false → T2.O = oth n1 AC f2 (i + 1) from fun h => by rw [oth_great hlf hy hf2 hs]; exact hT2.out.2.1 h)
                          have HDR := Lib.hid (drop_more hT2.out.2.2)
                          clear hs hy hf2 hlf
                          go_wp2_with fail
                          exact ⟨⟨i + 1, vb2, rd2, f2, bs2, T2, rfl, rfl, rfl, hil, by first | rfl | exact next (by omega), hK2, hL2, Lib.hid ⟨HPN.out.symm, HO2.out, HDR.out⟩⟩, by first | exact meas hil (by omega) | (show n - ((i : Int) + 1).toNat < n - (i : Int).toNat; omega)⟩
                      · as_aux_lemma =>
                        have dil : decide ((i : Int) < (n : Int)) = false := decide_eq_false (by omega)
                        have hin : i = AC.length := by rw [← HN.out]; omega
                        have hTe : T2 = passF rollF n1 x L := by
                          have q := hT2.out.1
                          rw [List.take_of_length_le (by omega), ← HLL.out] at q
                          exact q
                        have hOe : rd2 = false → (passF rollF n1 x L).O = oth n1 AC f2 AC.length := fun h => by rw [← hTe, ← hin]; exact hT2.out.2.1 h
                        have HOE := Lib.hid hOe
                        subst hTe
                        clear hin hOe
                        go_wp2_with fail
                        exact ⟨⟨1, vb2, _, rd2, f2, bs2, _, rfl, rfl, rfl, by omega, by first | rfl | exact next (by omega), hK2, hL2, Lib.hid (.inr (.inl ⟨rfl, rfl, rfl, HOE.out⟩))⟩, by first | decide | (show 2 - ((0 : Int) + 1).toNat < 2 - (0 : Int).toNat; omega)⟩
                  · cases rd with
                    | true =>
                      rw [← last_of (need := n1) hL.out rfl] at hL
                      clear hS hO
                      go_wp2_with fail
                      exact ⟨⟨j + 1, vb', _, bs', _, rfl, rfl, hlt, by first | rfl | exact next (by omega), HNX, Lib.hid (hL.out.best HN.out), Lib.hid hK.out.toRd⟩, by first | exact meas hlt (by omega) | (show RN - ((j : Int) + 1).toNat < RN - (j : Int).toNat; omega)⟩
                    | false =>
                      have HO0 := Lib.hid (hO rfl)
                      have HLF0 := Lib.hid hL.out.lf
                      clear hS hO
                      rw [show ((1 : Nat) : Int) = 1 from rfl]
                      go_wp2_with fail
                      go_loopw [12, 13, 16, 18] (fun s12 s13 s16 s18 wi => ∃ (i : Nat) (vb2 : Value) (rd2 : Bool) (f2 bs2 : List Bool) (S2 : Att), vb2 = s12 ∧ s13 = .int .u64 (passF rollF n1 x L).x ∧ s16 = .bool rd2 ∧ i ≤ n ∧ s18 = .int .i64 (i : Int) ∧ Hid (Rk w4 GS n (smallB n1 AC) vb2 bs2 GK f2 wi) ∧ Hid (Rel AC S2 b f2 bs2 rd2) ∧ Hid (S2 = (oth n1 AC f i).foldl (pickA n1) (passF rollF n1 x L).S ∧ f2.drop i = f.drop i)) (fun _ _ _ s18 _ => n - (intOf s18).toNat)
                      case atStart => exact ⟨0, vb', false, f, bs', _, rfl, rfl, rfl, Nat.zero_le _, rfl, hK, hL, Lib.hid ⟨by rw [oth_zero]; rfl, rfl⟩⟩
                      case round =>
                        obtain ⟨i, vb2, rd2, f2, bs2, S2, hvb2, rfl, rfl, hi, rfl, hK2, hL2, hT2⟩ := hrel
                        subst hvb2
                        obtain ⟨w11, rfl⟩ : ∃ z : World, z = wr := ⟨_, rfl⟩
                        by_cases hil : i < n
                        · have dil : decide ((i : Int) < (n : Int)) = true := decide_eq_true (by omega)
                          obtain ⟨y, hy⟩ : ∃ y, AC[i]? = some y := ⟨_, List.getElem?_eq_getElem (by rw [← HN.out]; exact hil)⟩
                          have hyp := HP.out y (List.mem_of_getElem? hy)
                          have cs : w11.cell? ⟨GS, i, none⟩ = some (.bool (small n1 y)) := hK2.out.s.cell (by rw [List.getElem?_map, smallB_at hy]; rfl)
                          have hlf := HLF0.out
                          obtain ⟨t, ht0⟩ : ∃ t, f[i]? = some t := ⟨_, List.getElem?_eq_getElem (by rw [hlf, ← HN.out]; exact hil)⟩
                          have hf2 : f2[i]? = some t := by rw [drop_get hT2.out.2]; exact ht0
                          have ck : w11.cell? ⟨GK, i, none⟩ = some (.bool t) := hK2.out.k.cell (by rw [List.getElem?_map, hf2]; rfl)
                          have HDR := Lib.hid (drop_more hT2.out.2)
                          by_cases hs : y.1 < n1
                          · rw [show small n1 y = true from decide_eq_true hs] at cs
                            cases t with
                            | true =>
                              have HPN := Lib.hid (show S2 = (oth n1 AC f (i + 1)).foldl (pickA n1) (passF rollF n1 x L).S by rw [oth_taken hlf hy ht0]; exact hT2.out.1)
                              clear hs hy hf2 hlf ht0
                              go_wp2_with fail
                              exact ⟨⟨i + 1, vb2, rd2, f2, bs2, S2, rfl, rfl, rfl, hil, by first | rfl | exact next (by omega), hK2, hL2, Lib.hid ⟨HPN.out, HDR.out⟩⟩, by first | exact meas hil (by omega) | (show n - ((i : Int) + 1).toNat < n - (i : Int).toNat; omega)⟩
                            | false =>
                              have HPN := Lib.hid (show pickA n1 S2 y = (oth n1 AC f (i + 1)).foldl (pickA n1) (passF rollF n1 x L).S by rw [oth_left hlf hy ht0 hs, List.foldl_append, ← hT2.out.1]; rfl)
                              clear hs ht0
                              have hok : AtOk 40 S2 := by have q := AtOk.fold n1 (oth n1 AC f i) (pass_ok rollF n1 x HLP.out).s (fun c hc => HP.out c (List.mem_of_mem_take (pick_mem _ _ _ hc))); rw [← hT2.out.1] at q; exact q.more (by have h1 := HLEN.out; have h2 := pick_le (AC.take i) ((freeB (smallB n1 AC) f).take i); rw [List.length_take] at h2; have h3 : (oth n1 AC f i).length ≤ min i AC.length := h2; have h4 := HN.out; omega)
                              have hsb := hok.sum
                              have hps : sumD (pick AC (f2.set i true)) = sumD S2.P + y.1 := by rw [pick_set_sum hy hf2, hL2.out.sum]
                              obtain ⟨s, hss⟩ : ∃ z, z = sumD S2.P + y.1 := ⟨_, rfl⟩
                              rw [← hss] at hps
                              have hse : s < endless := by unfold endless; omega
                              obtain ⟨sb, hsbb⟩ : ∃ z, z = sumD (pick AC bs2) := ⟨_, rfl⟩
                              obtain ⟨Av, cv, hform⟩ := own_form hK2.out.b
                              subst hform
                              have hK6 := hK2.out.set i true
                              have cfk : w11.cell? ⟨GK, i, none⟩ = some (.bool false) := ck
                              have ffk := hK2.out.k.free i
                              obtain ⟨w12, hw12⟩ : ∃ z, z = w11.setCell ⟨GK, i, none⟩ (.bool true) := ⟨_, rfl⟩
                              rw [← hw12] at hK6
                              have lf2 : (f2.set i true).length = n := by rw [List.length_set, hL2.out.lf, HN.out]
                              have lb2 : bs2.length = n := by rw [hL2.out.lb, HN.out]
                              have su1 := fun W (h : Below w12.heap.size w12 W) => rsum_any W.heap.size (.slice Aw n cw) (.slice (some ⟨GK, 0, none⟩) n n) AC (f2.set i true) W (Ints.keepB HIW.out (hK6.t.trans (h.mono hK6.t.size))) ((flr_row (hK6.k.below h hK6.k.lt) lf2 (by omega)).more (Nat.lt_of_lt_of_le hK6.k.lt h.size)) (by rw [lf2]; exact HN.out.symm) (Nat.le_refl _) HP.out HSM.out (by rw [← HN.out]; exact hl19)
                              have su2 := fun W (h : Below w12.heap.size w12 W) => rsum_any W.heap.size (.slice Aw n cw) (.slice Av n cv) AC bs2 W (Ints.keepB HIW.out (hK6.t.trans (h.mono hK6.t.size))) (show FlR W W.heap.size (.slice Av n cv) bs2 by have q := RowR.of_own (own_below hK6.b h); unfold FlR; rw [lb2]; exact q) (by rw [lb2]; exact HN.out.symm) (Nat.le_refl _) HP.out HSM.out (by rw [← HN.out]; exact hl19)
                              simp only [hps] at su1
                              simp only [← hsbb] at su2
                              have y0 : w12.cell? ⟨GT, 0, none⟩ = some (.int .i64 n1) := (hK6.t.cell (p := ⟨GT, 0, none⟩) GTL.out).trans HZ.out.1
                              have GTW := Lib.hid (show GT < w12.drew.heap.size from Nat.lt_of_lt_of_le GTL.out hK6.t.size)
                              have SU1 := Lib.hid su1
                              have SU2 := Lib.hid su2
                              have K6 := Lib.hid hK6
                              have HW12 := Lib.hid hw12
                              have HSS := Lib.hid hss
                              have HSE := Lib.hid hse
                              have HSBB := Lib.hid hsbb
                              have HY := Lib.hid hy
                              have HF2 := Lib.hid hf2
                              have HLF := Lib.hid lf2
                              clear su1 su2 hK6 hw12 hss hse hsbb hy hf2 lf2 lb2 hps hsb hok
                              go_upto_region 37 with fail
                              change Code.wp _ _ _ _ (w11.setCell ⟨GK, i, none⟩ (.bool true))
                              rw [← HW12.out]
                              clear HW12 cfk ffk ck cs
                              by_cases hu : s < n1
                              · as_aux_lemma =>
                                have du : decide (n1 ≤ s) = false := decide_eq_false (by omega)
                                refine wp_region_held_drew (S := (fun w' => w'.cell? ⟨GT, 0, none⟩ = some (.int .i64 n1))) (by kernel_rfl) ?_ (fun hHeld => ?_)
                                · exact y0
                                refine wpAnyH_take (i := 0) (oi := { dst := some 139, op := Go.Op.move (Go.Operand.tmp 7), type := 49, pos := "ref.go:203", after := #[], guard := none }) (v := ?p1uv0) rfl (by kernel_rfl) (by kernel_rfl) (by kernel_rfl) (fun _ _ _ h => h) (Or.inl ⟨by rfl, ?p1uy0⟩) (by assumption) ?p1ur0
                                case p1uy0 => (intro w hSw; (try dsimp only at hSw); go_simp; try (with_reducible rfl))
                                case p1ur0 =>
                                try simp only [Act.put, List.setIfInBounds_toArray, List.set_cons_zero, List.set_cons_succ]
                                refine wpAnyH_take (i := 1) (oi := { dst := some 140, op := Go.Op.move (Go.Operand.tmp 15), type := 64, pos := "ref.go:203", after := #[], guard := none }) (v := ?p1uv1) rfl (by kernel_rfl) (by kernel_rfl) (by kernel_rfl) (fun _ _ _ h => h) (Or.inl ⟨by rfl, ?p1uy1⟩) (by assumption) ?p1ur1
                                case p1uy1 => (intro w hSw; (try dsimp only at hSw); go_simp; try (with_reducible rfl))
                                case p1ur1 =>
                                try simp only [Act.put, List.setIfInBounds_toArray, List.set_cons_zero, List.set_cons_succ]
                                refine wpAnyH_take (i := 3) (oi := { dst := some 142, op := Go.Op.fieldAddr 25 (Go.Operand.tmp 3) 0, type := 0, pos := "ref.go:203", after := #[], guard := none }) (v := ?p1uv3) rfl (by kernel_rfl) (by kernel_rfl) (by kernel_rfl) (fun _ _ _ h => h) (Or.inl ⟨by rfl, ?p1uy3⟩) (by assumption) ?p1ur3
                                case p1uy3 => (intro w hSw; (try dsimp only at hSw); go_simp; try (with_reducible rfl))
                                case p1ur3 =>
                                try simp only [Act.put, List.setIfInBounds_toArray, List.set_cons_zero, List.set_cons_succ]
                                refine wpAnyH_take (i := 4) (oi := { dst := some 143, op := Go.Op.load 2 (Go.Operand.tmp 142), type := 2, pos := "ref.go:203", after := #[{ on := 3, ground := Go.Ground.data }], guard := none }) (v := ?p1uv4) rfl (by kernel_rfl) (by kernel_rfl) (by kernel_rfl) (fun _ _ _ h => h) (Or.inl ⟨by rfl, ?p1uy4⟩) (by assumption) ?p1ur4
                                case p1uy4 => (intro w hSw; (try dsimp only at hSw); go_simp; try (with_reducible rfl))
                                case p1ur4 =>
                                try simp only [Act.put, List.setIfInBounds_toArray, List.set_cons_zero, List.set_cons_succ]
                                refine wpAnyH_ready (rs := [2]) (by kernel_rfl) (by simp) ?_
                                refine AllReadyH.cons (o := { dst := some 141, op := Go.Op.call { callee := Go.Callee.value (Go.Operand.func 33), args := #[Go.Operand.tmp 139, Go.Operand.tmp 140], argTypes := #[49, 64] }, type := 2, pos := "ref.go:203", after := #[{ on := 0, ground := Go.Ground.data }, { on := 1, ground := Go.Ground.data }], guard := none }) rfl (fun K hK => ?_) (AllReadyH.nil)
                                go_simp
                                refine (SU1.out _ (Below.refl _ _).drew).mono ?_
                                rintro e w13 ⟨rfl, hb13⟩
                                go_simp
                                refine hK.out _ _ ?_ (fun hHeld => ?_)
                                · exact (hb13.cell (p := ⟨GT, 0, none⟩) GTW.out).trans y0
                                clear hK K
                                try simp only [Act.put, List.setIfInBounds_toArray, List.set_cons_zero, List.set_cons_succ]
                                refine wpAnyH_take (i := 5) (oi := { dst := some 144, op := Go.Op.binOp Go.BinOp.geq 2 (Go.Operand.tmp 141) (Go.Operand.tmp 143) 2, type := 4, pos := "ref.go:203", after := #[{ on := 2, ground := Go.Ground.data }, { on := 4, ground := Go.Ground.data }], guard := none }) (v := ?p1u_2v5) rfl (by kernel_rfl) (by kernel_rfl) (by kernel_rfl) (fun _ _ _ h => h) (Or.inl ⟨by rfl, ?p1u_2y5⟩) (by assumption) ?p1u_2r5
                                case p1u_2y5 => (intro w hSw; (try dsimp only at hSw); go_simp; try (with_reducible rfl))
                                case p1u_2r5 =>
                                try simp only [Act.put, List.setIfInBounds_toArray, List.set_cons_zero, List.set_cons_succ]
                                refine wpAnyH_done (by kernel_rfl) ?_ _
                                have b13 : Below w12.heap.size w12 w13 := (Below.refl _ _).drew.trans hb13
                                have B13 := Lib.hid b13
                                have K7 := Lib.hid (K6.out.below b13)
                                clear b13 hb13 y0
                                have HU := Lib.hid (show sumD S2.P + y.1 < n1 by rw [← HSS.out]; exact hu)
                                clear hu
                                go_wp2_with fail
                                exact ⟨⟨i + 1, .slice Av n cv, rd2, f2.set i true, bs2, pickA n1 S2 y, rfl, rfl, rfl, hil, by first | rfl | exact next (by omega), K7, Lib.hid (hL2.out.under HY.out HF2.out HU.out), Lib.hid ⟨HPN.out, by rw [set_drop]; exact HDR.out⟩⟩, by first | exact meas hil (by omega) | (show n - ((i : Int) + 1).toNat < n - (i : Int).toNat; omega)⟩
                              · have du : decide (n1 ≤ s) = true := decide_eq_true (by omega)
                                have HU := Lib.hid (show ¬ sumD S2.P + y.1 < n1 by rw [← HSS.out]; exact hu)
                                have hrel2 := hL2.out.over HY.out HF2.out HU.out (by rw [← HSS.out]; exact HSE.out)
                                rw [← HSS.out, ← HSBB.out] at hrel2
                                clear hu
                                by_cases hb : s < sb
                                · as_aux_lemma =>
                                  rw [if_pos hb] at hrel2
                                  have HRL2 := Lib.hid hrel2
                                  have db : decide (s < sb) = true := decide_eq_true hb
                                  clear hb hrel2
                                  refine wp_region_held_drew (S := (fun w' => w'.cell? ⟨GT, 0, none⟩ = some (.int .i64 n1))) (by kernel_rfl) ?_ (fun hHeld => ?_)
                                  · exact y0
                                  refine wpAnyH_take (i := 0) (oi := { dst := some 139, op := Go.Op.move (Go.Operand.tmp 7), type := 49, pos := "ref.go:203", after := #[], guard := none }) (v := ?p1lv0) rfl (by kernel_rfl) (by kernel_rfl) (by kernel_rfl) (fun _ _ _ h => h) (Or.inl ⟨by rfl, ?p1ly0⟩) (by assumption) ?p1lr0
                                  case p1ly0 => (intro w hSw; (try dsimp only at hSw); go_simp; try (with_reducible rfl))
                                  case p1lr0 =>
                                  try simp only [Act.put, List.setIfInBounds_toArray, List.set_cons_zero, List.set_cons_succ]
                                  refine wpAnyH_take (i := 1) (oi := { dst := some 140, op := Go.Op.move (Go.Operand.tmp 15), type := 64, pos := "ref.go:203", after := #[], guard := none }) (v := ?p1lv1) rfl (by kernel_rfl) (by kernel_rfl) (by kernel_rfl) (fun _ _ _ h => h) (Or.inl ⟨by rfl, ?p1ly1⟩) (by assumption) ?p1lr1
                                  case p1ly1 => (intro w hSw; (try dsimp only at hSw); go_simp; try (with_reducible rfl))
                                  case p1lr1 =>
                                  try simp only [Act.put, List.setIfInBounds_toArray, List.set_cons_zero, List.set_cons_succ]
                                  refine wpAnyH_take (i := 3) (oi := { dst := some 142, op := Go.Op.fieldAddr 25 (Go.Operand.tmp 3) 0, type := 0, pos := "ref.go:203", after := #[], guard := none }) (v := ?p1lv3) rfl (by kernel_rfl) (by kernel_rfl) (by kernel_rfl) (fun _ _ _ h => h) (Or.inl ⟨by rfl, ?p1ly3⟩) (by assumption) ?p1lr3
                                  case p1ly3 => (intro w hSw; (try dsimp only at hSw); go_simp; try (with_reducible rfl))
                                  case p1lr3 =>
                                  try simp only [Act.put, List.setIfInBounds_toArray, List.set_cons_zero, List.set_cons_succ]
                                  refine wpAnyH_take (i := 4) (oi := { dst := some 143, op := Go.Op.load 2 (Go.Operand.tmp 142), type := 2, pos := "ref.go:203", after := #[{ on := 3, ground := Go.Ground.data }], guard := none }) (v := ?p1lv4) rfl (by kernel_rfl) (by kernel_rfl) (by kernel_rfl) (fun _ _ _ h => h) (Or.inl ⟨by rfl, ?p1ly4⟩) (by assumption) ?p1lr4
                                  case p1ly4 => (intro w hSw; (try dsimp only at hSw); go_simp; try (with_reducible rfl))
                                  case p1lr4 =>
                                  try simp only [Act.put, List.setIfInBounds_toArray, List.set_cons_zero, List.set_cons_succ]
                                  refine wpAnyH_ready (rs := [2]) (by kernel_rfl) (by simp) ?_
                                  refine AllReadyH.cons (o := { dst := some 141, op := Go.Op.call { callee := Go.Callee.value (Go.Operand.func 33), args := #[Go.Operand.tmp 139, Go.Operand.tmp 140], argTypes := #[49, 64] }, type := 2, pos := "ref.go:203", after := #[{ on := 0, ground := Go.Ground.data }, { on := 1, ground := Go.Ground.data }], guard := none }) rfl (fun K hK => ?_) (AllReadyH.nil)
                                  go_simp
                                  refine (SU1.out _ (Below.refl _ _).drew).mono ?_
                                  rintro e w13 ⟨rfl, hb13⟩
                                  go_simp
                                  refine hK.out _ _ ?_ (fun hHeld => ?_)
                                  · exact (hb13.cell (p := ⟨GT, 0, none⟩) GTW.out).trans y0
                                  clear hK K
                                  try simp only [Act.put, List.setIfInBounds_toArray, List.set_cons_zero, List.set_cons_succ]
                                  refine wpAnyH_take (i := 5) (oi := { dst := some 144, op := Go.Op.binOp Go.BinOp.geq 2 (Go.Operand.tmp 141) (Go.Operand.tmp 143) 2, type := 4, pos := "ref.go:203", after := #[{ on := 2, ground := Go.Ground.data }, { on := 4, ground := Go.Ground.data }], guard := none }) (v := ?p1l_2v5) rfl (by kernel_rfl) (by kernel_rfl) (by kernel_rfl) (fun _ _ _ h => h) (Or.inl ⟨by rfl, ?p1l_2y5⟩) (by assumption) ?p1l_2r5
                                  case p1l_2y5 => (intro w hSw; (try dsimp only at hSw); go_simp; try (with_reducible rfl))
                                  case p1l_2r5 =>
                                  try simp only [Act.put, List.setIfInBounds_toArray, List.set_cons_zero, List.set_cons_succ]
                                  refine wpAnyH_done (by kernel_rfl) ?_ _
                                  have b13 : Below w12.heap.size w12 w13 := (Below.refl _ _).drew.trans hb13
                                  have B13 := Lib.hid b13
                                  have K7 := Lib.hid (K6.out.below b13)
                                  clear b13 hb13 y0
                                  go_upto_region 40 with (first
                                    | (go_at_call 33; refine (SU2.out _ (B13.out.trans (hb14.mono B13.out.size))).mono ?_; rintro e w15 ⟨rfl, hb15⟩)
                                    | (go_at_call 33; refine (SU1.out _ B13.out).mono ?_; rintro e w14 ⟨rfl, hb14⟩))
                                  have K15 := Lib.hid ((K7.out.below hb14).below hb15)
                                  obtain ⟨w16, hw16⟩ : ∃ z, z = w15.alloc (.cells #[] 4) := ⟨_, rfl⟩
                                  have b16 : Below w15.heap.size w15 w16 := by rw [hw16]; exact (Below.refl _ _).alloc (Nat.le_refl _) _
                                  have O16 := Lib.hid (show w16.ownsRow (GS + 1) 4 1 (.slice (some ⟨w15.heap.size, 0, none⟩) 0 0) 0 [] by rw [hw16]; exact World.ownsRow_made w15 #[] 0 K15.out.s.lt (by unfold maxLen; omega) rfl)
                                  have R16 := Lib.hid (show w16.rangeAt GK 0 ((f2.set i true).map Value.bool) from (K15.out.k.below b16 K15.out.k.lt).range (fun q v hv => by rw [Nat.zero_add]; exact hv))
                                  have L16 := Lib.hid (show ((f2.set i true).map Value.bool).length = n * 1 by rw [List.length_map, HLF.out, Nat.mul_one])
                                  have Q16 := Lib.hid (show ∀ u ∈ (f2.set i true).map Value.bool, u.oneCell' = true from fun u hu => by obtain ⟨q, _, rfl⟩ := List.mem_map.1 hu; rfl)
                                  have M16 := Lib.hid (show (0 + n) * 1 ≤ 140737488355328 by omega)
                                  have N16 := Lib.hid (show 0 + n ≤ maxLen by unfold maxLen; omega)
                                  have G16 := Lib.hid (show GS + 1 ≤ w16.heap.size from Nat.le_trans K15.out.s.lt b16.size)
                                  have HW16 := Lib.hid hw16
                                  have B16 := Lib.hid b16
                                  clear hw16 b16 hb14 hb15
                                  go_upto_region 41 with (first
                                    | (at_builtin; rw [← HW16.out]; refine wpList_append_rows slt_bool rfl (.tmp 152) (.tmp 153) rfl (GS + 1) _ _ _ rfl O16.out GK 0 n n ((f2.set i true).map Value.bool) rfl L16.out R16.out Q16.out M16.out N16.out G16.out ?_; intro v17 w17 hown17 hg17 ho17; obtain ⟨A17, c17, rfl⟩ := own_form hown17))
                                  have b17 : Below w15.heap.size w15 w17 := B16.out.grown hg17 B16.out.size (fun k hk => by injection hk with hk; exact Nat.le_of_eq hk)
                                  have hK17 : Rk w4 GS n (smallB n1 AC) (.slice A17 n c17) (f2.set i true) GK (f2.set i true) w17 := K15.out.copy (by (try rw [Nat.zero_add, List.nil_append] at hown17); exact hown17) b17 (v0 := .slice (some ⟨w15.heap.size, 0, none⟩) 0 0) (fun q hq => by injection hq with hq; exact Nat.le_of_eq hq) B16.out.size (by (try rw [Nat.zero_add] at ho17); exact ho17)
                                  have hK18 := hK17.set i false
                                  rw [set_back HF2.out] at hK18
                                  have c17' : w17.cell? ⟨GK, i, none⟩ = some (.bool true) := hK17.k.cell (by rw [List.getElem?_map, List.getElem?_set_self (List.getElem?_eq_some_iff.1 HF2.out).1]; rfl)
                                  have f17' := hK17.k.free i
                                  have K18 := Lib.hid hK18
                                  clear hown17 hg17 ho17 b17 hK17 hK18
                                  go_wp2_with fail
                                  exact ⟨⟨i + 1, .slice A17 n c17, true, f2, f2.set i true, pickA n1 S2 y, rfl, rfl, rfl, hil, by first | rfl | exact next (by omega), K18, HRL2, Lib.hid ⟨HPN.out, HDR.out⟩⟩, by first | exact meas hil (by omega) | (show n - ((i : Int) + 1).toNat < n - (i : Int).toNat; omega)⟩
                                · as_aux_lemma =>
                                  rw [if_neg hb] at hrel2
                                  have HRL2 := Lib.hid hrel2
                                  have db : decide (s < sb) = false := decide_eq_false hb
                                  clear hb hrel2
                                  refine wp_region_held_drew (S := (fun w' => w'.cell? ⟨GT, 0, none⟩ = some (.int .i64 n1))) (by kernel_rfl) ?_ (fun hHeld => ?_)
                                  · exact y0
                                  refine wpAnyH_take (i := 0) (oi := { dst := some 139, op := Go.Op.move (Go.Operand.tmp 7), type := 49, pos := "ref.go:203", after := #[], guard := none }) (v := ?p1gv0) rfl (by kernel_rfl) (by kernel_rfl) (by kernel_rfl) (fun _ _ _ h => h) (Or.inl ⟨by rfl, ?p1gy0⟩) (by assumption) ?p1gr0
                                  case p1gy0 => (intro w hSw; (try dsimp only at hSw); go_simp; try (with_reducible rfl))
                                  case p1gr0 =>
                                  try simp only [Act.put, List.setIfInBounds_toArray, List.set_cons_zero, List.set_cons_succ]
                                  refine wpAnyH_take (i := 1) (oi := { dst := some 140, op := Go.Op.move (Go.Operand.tmp 15), type := 64, pos := "ref.go:203", after := #[], guard := none }) (v := ?p1gv1) rfl (by kernel_rfl) (by kernel_rfl) (by kernel_rfl) (fun _ _ _ h => h) (Or.inl ⟨by rfl, ?p1gy1⟩) (by assumption) ?p1gr1
                                  case p1gy1 => (intro w hSw; (try dsimp only at hSw); go_simp; try (with_reducible rfl))
                                  case p1gr1 =>
                                  try simp only [Act.put, List.setIfInBounds_toArray, List.set_cons_zero, List.set_cons_succ]
                                  refine wpAnyH_take (i := 3) (oi := { dst := some 142, op := Go.Op.fieldAddr 25 (Go.Operand.tmp 3) 0, type := 0, pos := "ref.go:203", after := #[], guard := none }) (v := ?p1gv3) rfl (by kernel_rfl) (by kernel_rfl) (by kernel_rfl) (fun _ _ _ h => h) (Or.inl ⟨by rfl, ?p1gy3⟩) (by assumption) ?p1gr3
                                  case p1gy3 => (intro w hSw; (try dsimp only at hSw); go_simp; try (with_reducible rfl))
                                  case p1gr3 =>
                                  try simp only [Act.put, List.setIfInBounds_toArray, List.set_cons_zero, List.set_cons_succ]
                                  refine wpAnyH_take (i := 4) (oi := { dst := some 143, op := Go.Op.load 2 (Go.Operand.tmp 142), type := 2, pos := "ref.go:203", after := #[{ on := 3, ground := Go.Ground.data }], guard := none }) (v := ?p1gv4) rfl (by kernel_rfl) (by kernel_rfl) (by kernel_rfl) (fun _ _ _ h => h) (Or.inl ⟨by rfl, ?p1gy4⟩) (by assumption) ?p1gr4
                                  case p1gy4 => (intro w hSw; (try dsimp only at hSw); go_simp; try (with_reducible rfl))
                                  case p1gr4 =>
                                  try simp only [Act.put, List.setIfInBounds_toArray, List.set_cons_zero, List.set_cons_succ]
                                  refine wpAnyH_ready (rs := [2]) (by kernel_rfl) (by simp) ?_
                                  refine AllReadyH.cons (o := { dst := some 141, op := Go.Op.call { callee := Go.Callee.value (Go.Operand.func 33), args := #[Go.Operand.tmp 139, Go.Operand.tmp 140], argTypes := #[49, 64] }, type := 2, pos := "ref.go:203", after := #[{ on := 0, ground := Go.Ground.data }, { on := 1, ground := Go.Ground.data }], guard := none }) rfl (fun K hK => ?_) (AllReadyH.nil)
                                  go_simp
                                  refine (SU1.out _ (Below.refl _ _).drew).mono ?_
                                  rintro e w13 ⟨rfl, hb13⟩
                                  go_simp
                                  refine hK.out _ _ ?_ (fun hHeld => ?_)
                                  · exact (hb13.cell (p := ⟨GT, 0, none⟩) GTW.out).trans y0
                                  clear hK K
                                  try simp only [Act.put, List.setIfInBounds_toArray, List.set_cons_zero, List.set_cons_succ]
                                  refine wpAnyH_take (i := 5) (oi := { dst := some 144, op := Go.Op.binOp Go.BinOp.geq 2 (Go.Operand.tmp 141) (Go.Operand.tmp 143) 2, type := 4, pos := "ref.go:203", after := #[{ on := 2, ground := Go.Ground.data }, { on := 4, ground := Go.Ground.data }], guard := none }) (v := ?p1g_2v5) rfl (by kernel_rfl) (by kernel_rfl) (by kernel_rfl) (fun _ _ _ h => h) (Or.inl ⟨by rfl, ?p1g_2y5⟩) (by assumption) ?p1g_2r5
                                  case p1g_2y5 => (intro w hSw; (try dsimp only at hSw); go_simp; try (with_reducible rfl))
                                  case p1g_2r5 =>
                                  try simp only [Act.put, List.setIfInBounds_toArray, List.set_cons_zero, List.set_cons_succ]
                                  refine wpAnyH_done (by kernel_rfl) ?_ _
                                  have b13 : Below w12.heap.size w12 w13 := (Below.refl _ _).drew.trans hb13
                                  have B13 := Lib.hid b13
                                  have K7 := Lib.hid (K6.out.below b13)
                                  clear b13 hb13 y0
                                  go_upto_region 41 with (first
                                    | (go_at_call 33; refine (SU2.out _ (B13.out.trans (hb14.mono B13.out.size))).mono ?_; rintro e w15 ⟨rfl, hb15⟩)
                                    | (go_at_call 33; refine (SU1.out _ B13.out).mono ?_; rintro e w14 ⟨rfl, hb14⟩))
                                  have hK15 := (K7.out.below hb14).below hb15
                                  have hK18 := hK15.set i false
                                  rw [set_back HF2.out] at hK18
                                  have c17' : w15.cell? ⟨GK, i, none⟩ = some (.bool true) := hK15.k.cell (by rw [List.getElem?_map, List.getElem?_set_self (List.getElem?_eq_some_iff.1 HF2.out).1]; rfl)
                                  have f17' := hK15.k.free i
                                  have K18 := Lib.hid hK18
                                  clear hb14 hb15 hK15 hK18
                                  go_wp2_with fail
                                  exact ⟨⟨i + 1, .slice Av n cv, true, f2, bs2, pickA n1 S2 y, rfl, rfl, rfl, hil, by first | rfl | exact next (by omega), K18, HRL2, Lib.hid ⟨HPN.out, HDR.out⟩⟩, by first | exact meas hil (by omega) | (show n - ((i : Int) + 1).toNat < n - (i : Int).toNat; omega)⟩
                          · as_aux_lemma =>
                            rw [show small n1 y = false from decide_eq_false hs] at cs
                            have HPN := Lib.hid (show S2 = (oth n1 AC f (i + 1)).foldl (pickA n1) (passF rollF n1 x L).S by rw [oth_great hlf hy ht0 hs]; exact hT2.out.1)
                            clear hs hy hf2 hlf ht0
                            go_wp2_with fail
                            exact ⟨⟨i + 1, vb2, rd2, f2, bs2, S2, rfl, rfl, rfl, hil, by first | rfl | exact next (by omega), hK2, hL2, Lib.hid ⟨HPN.out, HDR.out⟩⟩, by first | exact meas hil (by omega) | (show n - ((i : Int) + 1).toNat < n - (i : Int).toNat; omega)⟩
                        · as_aux_lemma =>
                          have dil : decide ((i : Int) < (n : Int)) = false := decide_eq_false (by omega)
                          have hin : i = AC.length := by rw [← HN.out]; omega
                          have hSe : S2 = lastF n1 (passF rollF n1 x L) := by rw [last_on hL.out rfl, HO0.out, ← hin]; exact hT2.out.1
                          subst hSe
                          clear hin
                          go_wp2_with fail
                          exact ⟨⟨2, vb2, _, rd2, f2, bs2, _, rfl, rfl, rfl, by omega, by first | rfl | exact next (by omega), hK2, hL2, Lib.hid (.inr (.inr ⟨rfl, rfl, rfl⟩))⟩, by first | decide | (show 2 - ((1 : Int) + 1).toNat < 2 - (1 : Int).toNat; omega)⟩
                  · clear hS
                    go_wp2_with fail
                    exact ⟨⟨j + 1, vb', _, bs', _, rfl, rfl, hlt, by first | rfl | exact next (by omega), HNX, Lib.hid (hL.out.best HN.out), Lib.hid hK.out.toRd⟩, by first | exact meas hlt (by omega) | (show RN - ((j : Int) + 1).toNat < RN - (j : Int).toNat; omega)⟩
              · have hBe : b = BF := by rw [hbf.out, show RN - j = 0 by omega]; rfl
                subst hBe
                by_cases hjT : j < T
                · have dT : decide ((j : Int) < (T : Int)) = true := decide_eq_true (by omega)
                  have d200 : decide ((j : Int) < 200) = false := decide_eq_false (by omega)
                  obtain ⟨Av, cv, hform⟩ := own_form hD.out.b
                  subst hform
                  have hfb := fun W (h : Below w9.heap.size w9 W) => (show FlR W W.heap.size (.slice Av n cv) bs by have q := RowR.of_own (own_below hD.out.b h); unfold FlR; rw [hbs.out.2.2]; exact q)
                  have SU := Lib.hid (rsum_any w9.heap.size (.slice Aw n cw) (.slice Av n cv) AC bs w9 (Ints.keepB HIW.out hD.out.t) (hfb w9 (Below.refl _ _)) (by rw [hbs.out.2.2]; exact HN.out.symm) (Nat.le_refl _) HP.out HSM.out (by rw [← HN.out]; exact hl19))
                  rw [hbs.out.2.1] at SU
                  have hpl := fun W (h : Below w9.heap.size w9 W) => places_any W.heap.size (.slice Aa n ca) (.slice Av n cv) AC bs W (Ints.keepB HIA.out (hD.out.t.trans (h.mono hD.out.t.size))) (hfb W h) (by rw [hbs.out.2.2]; exact HN.out.symm) (Nat.le_refl _) (by rw [← HN.out]; exact hl19)
                  simp only [places_perm hbs.out.1] at hpl
                  have HPL := Lib.hid hpl
                  have BW9 := Lib.hid (B4.out.trans (hD.out.t.mono B4.out.size))
                  have BT9 := Lib.hid hD.out.t
                  clear hfb hpl hbf hbs hD
                  go_upto_region 43 with (first | (go_at_call 33; refine SU.out.mono ?_; rintro e w10 ⟨rfl, hb10⟩))
                  have B10 := Lib.hid hb10
                  have BW := Lib.hid (BW9.out.trans (hb10.mono BW9.out.size))
                  have BT := Lib.hid (BT9.out.trans (hb10.mono BT9.out.size))
                  have y0 : w10.cell? ⟨GT, 0, none⟩ = some (.int .i64 n1) := (BT.out.cell (p := ⟨GT, 0, none⟩) GTL.out).trans HZ.out.1
                  clear hb10 SU
                  rcases HG2.out with ⟨rfl, hno⟩ | ⟨g, gc, rfl, hgc, hso⟩
                  · have hRe : R = (0, placesF b.1) := by rw [HR.out, hno]; rfl
                    clear HR HG2
                    subst hRe
                    go_wp2_with (first
                      | (go_at_call 31; refine (HPL.out _ B10.out).mono ?_; rintro e w11 ⟨u, rfl, hu, hb11⟩))
                    go_ret2
                    exact ⟨u, rfl, hu, BW.out.trans (hb11.mono BW.out.size)⟩
                  · have dg : decide ((0 : Int) ≤ (g : Int)) = true := decide_eq_true (by omega)
                    have hgn : g < n := by rw [HN.out]; exact (List.getElem?_eq_some_iff.1 hgc).1
                    have hIw10 : Ints .i64 w10 w4.heap.size (.slice Aw n cw) (woI AC) := Ints.below HIW.out BT.out
                    obtain ⟨b2, o2, c2, ef, hbl2, hcm⟩ := Ints.at_lt hIw10 (i := g) (x := gc.1) (by unfold woI; rw [List.getElem?_map, hgc]; rfl)
                    injection ef with ef1 ef2 ef3
                    subst ef1
                    clear ef2 ef3 hIw10
                    by_cases h1 : b.2 = n1
                    · as_aux_lemma =>
                      have d1 : decide (b.2 = n1) = true := decide_eq_true h1
                      have d2 : (b.2 == n1) = true := beq_iff_eq.2 h1
                      have d4 : decide (¬ b.2 = n1) = false := decide_eq_false (fun h => h h1)
                      have d5 : (b.2 != n1) = false := by rw [bne, d2]; rfl
                      have hRe : R = (0, placesF b.1) := by rw [HR.out]; simp [hso, h1]
                      clear HR HG2 h1
                      subst hRe
                      go_wp2_with (first
                        | (go_at_call 31; refine (HPL.out _ B10.out).mono ?_; rintro e w11 ⟨u, rfl, hu, hb11⟩))
                      go_ret2
                      exact ⟨u, rfl, hu, BW.out.trans (hb11.mono BW.out.size)⟩
                    · have d1 : decide (b.2 = n1) = false := decide_eq_false h1
                      have d2 : (b.2 == n1) = false := beq_eq_false_iff_ne.2 h1
                      have d4 : decide (¬ b.2 = n1) = true := decide_eq_true h1
                      have d5 : (b.2 != n1) = true := by rw [bne, d2]; rfl
                      by_cases h2 : gc.1 ≤ b.2
                      · as_aux_lemma =>
                        have d3 : decide (gc.1 ≤ b.2) = true := decide_eq_true h2
                        have hRe : R = (0, [gc.2]) := by rw [HR.out]; simp [hso, h1, h2]; (try rfl)
                        clear HR HG2 h1 h2
                        subst hRe
                        have hIa10 : Ints .i64 w10 w4.heap.size (.slice Aa n ca) (atI AC) := Ints.below HIA.out BT.out
                        obtain ⟨b3, o3, c3, ef, hbl3, hca⟩ := Ints.at_lt hIa10 (i := g) (x := (gc.2 : Int)) (by unfold atI; rw [List.getElem?_map, hgc]; rfl)
                        injection ef with ef1 ef2 ef3
                        subst ef1
                        clear ef2 ef3 hIa10 hgc hso
                        go_wp2_with fail
                        go_ret2
                        exact ⟨_, rfl, ints_more (ints_row (VRow.new w10 3 [.int .i64 (gc.2 : Int)])) (by simp), BW.out.alloc BW.out.size _⟩
                      · as_aux_lemma =>
                        have d3 : decide (gc.1 ≤ b.2) = false := decide_eq_false h2
                        have hRe : R = (0, placesF b.1) := by rw [HR.out]; simp [hso, h2]
                        clear HR HG2 h1 h2
                        subst hRe
                        go_wp2_with (first
                          | (go_at_call 31; refine (HPL.out _ B10.out).mono ?_; rintro e w11 ⟨u, rfl, hu, hb11⟩))
                        go_ret2
                        exact ⟨u, rfl, hu, BW.out.trans (hb11.mono BW.out.size)⟩
                · have dT : decide ((j : Int) < (T : Int)) = false := decide_eq_false (by omega)
                  obtain ⟨Av, cv, hform⟩ := own_form hD.out.b
                  subst hform
                  have hfb := fun W (h : Below w9.heap.size w9 W) => (show FlR W W.heap.size (.slice Av n cv) bs by have q := RowR.of_own (own_below hD.out.b h); unfold FlR; rw [hbs.out.2.2]; exact q)
                  have SU := Lib.hid (rsum_any w9.heap.size (.slice Aw n cw) (.slice Av n cv) AC bs w9 (Ints.keepB HIW.out hD.out.t) (hfb w9 (Below.refl _ _)) (by rw [hbs.out.2.2]; exact HN.out.symm) (Nat.le_refl _) HP.out HSM.out (by rw [← HN.out]; exact hl19))
                  rw [hbs.out.2.1] at SU
                  have hpl := fun W (h : Below w9.heap.size w9 W) => places_any W.heap.size (.slice Aa n ca) (.slice Av n cv) AC bs W (Ints.keepB HIA.out (hD.out.t.trans (h.mono hD.out.t.size))) (hfb W h) (by rw [hbs.out.2.2]; exact HN.out.symm) (Nat.le_refl _) (by rw [← HN.out]; exact hl19)
                  simp only [places_perm hbs.out.1] at hpl
                  have HPL := Lib.hid hpl
                  have BW9 := Lib.hid (B4.out.trans (hD.out.t.mono B4.out.size))
                  have BT9 := Lib.hid hD.out.t
                  clear hfb hpl hbf hbs hD
                  go_upto_region 43 with (first | (go_at_call 33; refine SU.out.mono ?_; rintro e w10 ⟨rfl, hb10⟩))
                  have B10 := Lib.hid hb10
                  have BW := Lib.hid (BW9.out.trans (hb10.mono BW9.out.size))
                  have BT := Lib.hid (BT9.out.trans (hb10.mono BT9.out.size))
                  have y0 : w10.cell? ⟨GT, 0, none⟩ = some (.int .i64 n1) := (BT.out.cell (p := ⟨GT, 0, none⟩) GTL.out).trans HZ.out.1
                  clear hb10 SU
                  rcases HG2.out with ⟨rfl, hno⟩ | ⟨g, gc, rfl, hgc, hso⟩
                  · have hRe : R = (0, placesF b.1) := by rw [HR.out, hno]; rfl
                    clear HR HG2
                    subst hRe
                    go_wp2_with (first
                      | (go_at_call 31; refine (HPL.out _ B10.out).mono ?_; rintro e w11 ⟨u, rfl, hu, hb11⟩))
                    go_ret2
                    exact ⟨u, rfl, hu, BW.out.trans (hb11.mono BW.out.size)⟩
                  · have dg : decide ((0 : Int) ≤ (g : Int)) = true := decide_eq_true (by omega)
                    have hgn : g < n := by rw [HN.out]; exact (List.getElem?_eq_some_iff.1 hgc).1
                    have hIw10 : Ints .i64 w10 w4.heap.size (.slice Aw n cw) (woI AC) := Ints.below HIW.out BT.out
                    obtain ⟨b2, o2, c2, ef, hbl2, hcm⟩ := Ints.at_lt hIw10 (i := g) (x := gc.1) (by unfold woI; rw [List.getElem?_map, hgc]; rfl)
                    injection ef with ef1 ef2 ef3
                    subst ef1
                    clear ef2 ef3 hIw10
                    by_cases h1 : b.2 = n1
                    · as_aux_lemma =>
                      have d1 : decide (b.2 = n1) = true := decide_eq_true h1
                      have d2 : (b.2 == n1) = true := beq_iff_eq.2 h1
                      have d4 : decide (¬ b.2 = n1) = false := decide_eq_false (fun h => h h1)
                      have d5 : (b.2 != n1) = false := by rw [bne, d2]; rfl
                      have hRe : R = (0, placesF b.1) := by rw [HR.out]; simp [hso, h1]
                      clear HR HG2 h1
                      subst hRe
                      go_wp2_with (first
                        | (go_at_call 31; refine (HPL.out _ B10.out).mono ?_; rintro e w11 ⟨u, rfl, hu, hb11⟩))
                      go_ret2
                      exact ⟨u, rfl, hu, BW.out.trans (hb11.mono BW.out.size)⟩
                    · have d1 : decide (b.2 = n1) = false := decide_eq_false h1
                      have d2 : (b.2 == n1) = false := beq_eq_false_iff_ne.2 h1
                      have d4 : decide (¬ b.2 = n1) = true := decide_eq_true h1
                      have d5 : (b.2 != n1) = true := by rw [bne, d2]; rfl
                      by_cases h2 : gc.1 ≤ b.2
                      · as_aux_lemma =>
                        have d3 : decide (gc.1 ≤ b.2) = true := decide_eq_true h2
                        have hRe : R = (0, [gc.2]) := by rw [HR.out]; simp [hso, h1, h2]; (try rfl)
                        clear HR HG2 h1 h2
                        subst hRe
                        have hIa10 : Ints .i64 w10 w4.heap.size (.slice Aa n ca) (atI AC) := Ints.below HIA.out BT.out
                        obtain ⟨b3, o3, c3, ef, hbl3, hca⟩ := Ints.at_lt hIa10 (i := g) (x := (gc.2 : Int)) (by unfold atI; rw [List.getElem?_map, hgc]; rfl)
                        injection ef with ef1 ef2 ef3
                        subst ef1
                        clear ef2 ef3 hIa10 hgc hso
                        go_wp2_with fail
                        go_ret2
                        exact ⟨_, rfl, ints_more (ints_row (VRow.new w10 3 [.int .i64 (gc.2 : Int)])) (by simp), BW.out.alloc BW.out.size _⟩
                      · as_aux_lemma =>
                        have d3 : decide (gc.1 ≤ b.2) = false := decide_eq_false h2
                        have hRe : R = (0, placesF b.1) := by rw [HR.out]; simp [hso, h2]
                        clear HR HG2 h1 h2
                        subst hRe
                        go_wp2_with (first
                          | (go_at_call 31; refine (HPL.out _ B10.out).mono ?_; rintro e w11 ⟨u, rfl, hu, hb11⟩))
                        go_ret2
                        exact ⟨u, rfl, hu, BW.out.trans (hb11.mono BW.out.size)⟩


  · have hok : decide (sumD AC ≤ 2100000000000000) = false := decide_eq_false hsum
    rw [hok] at HO
    rw [if_neg hsum] at hR
    subst hR
    clear hok hsum
    go_wp2_with (first
      | (go_at_call 30; refine HO.out.mono ?_; rintro e w4 ⟨ua, uw, rfl, hau, hb4⟩))
    go_ret2
    exact ⟨_, rfl, Ints.nil _ _ _, B3.out.trans (hb4.mono B3.out.size)⟩
end Go.Proofs.Ytammeedmccblcaa.Cs
