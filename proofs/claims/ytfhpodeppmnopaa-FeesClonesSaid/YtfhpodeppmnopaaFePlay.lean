/-
  Acts played to both books. Conditions: the acts are data.
-/
import Derived.Test.YtfhpodeppmnopaaFeAwake
namespace Go.Proofs.Ytfhpodeppmnopaa
open Go.RowKit

/-- A slice of acts, in a block below B. -/
def ActS (w : World) (B : Nat) (v : Value) (al : List AcP) : Prop :=
  ∃ A cap, v = .slice A al.length cap ∧ al.length ≤ 9223372036854775807 ∧ (∀ a ∈ al, a.ok) ∧ (al ≠ [] → ∃ b o, A = some ⟨b, o, none⟩ ∧ b < B ∧ ∀ i a, al[i]? = some a → ∃ bv, w.rangeAt b (o + i * 5) (acC a bv) ∧ Byt w B bv a.ids)
def playF (al : List AcP) : Bs := (al.take 60).foldl actF bs0
theorem ok_play : ∀ (al : List AcP) {n : Nat} {S : Bs}, Ok n S → (∀ a ∈ al, a.ok) → Ok (n + al.length) (al.foldl actF S)
  | [], _, _, h, _ => h
  | a :: al, n, _, h, ha => by
    have := ok_play al (h.act (ha a (by simp))) (fun x hx => ha x (by simp [hx]))
    rw [List.length_cons, show n + (al.length + 1) = n + 1 + al.length by omega]
    exact this
theorem plays_next (T : Bs) {al : List AcP} {i : Nat} {a : AcP} (hi : al[i]? = some a) : (al.take (i + 1)).foldl actF T = actF ((al.take i).foldl actF T) a := by
  rw [List.take_add_one, hi, List.foldl_append]
  rfl
/-- What playing keeps. -/
structure PlAt (w wr : World) (g : Nat) (m : Option Nat) (S : Bs) (G5 G3 : Nat) (us zs : List Value) : Prop where
  own : Owned w wr 7 g m S
  ref : RefV wr 7 us S
  r5 : VRow wr G5 30 us
  r3 : VRow wr G3 30 zs
  ne : G5 ≠ G3
  ge5 : w.heap.size ≤ G5
  ge3 : w.heap.size ≤ G3
theorem PlAt.drew {w wr : World} {g : Nat} {m : Option Nat} {S : Bs} {G5 G3 : Nat} {us zs : List Value} (h : PlAt w wr g m S G5 G3 us zs) : PlAt w wr.drew g m S G5 G3 us zs := ⟨h.own.drew, h.ref.drew, h.r5, h.r3, h.ne, h.ge5, h.ge3⟩
/-- An act done, and the box written. -/
theorem PlAt.done {w wr w2 : World} {g : Nat} {m m' : Option Nat} {S S' : Bs} {G5 G3 : Nat} {us us' zs : List Value} (h : PlAt w wr g m S G5 G3 us zs) (ho : Owned w w2 7 g m' S') (hr : RefV w2 7 us' S') (ht : Turns (fun i => i = g ∨ m = some i) wr w2) :
    VRow w2 G5 30 us ∧ PlAt w (w2.setRow G5 us'.toArray) g m' S' G5 G3 us' zs := by
  have q5 : VRow w2 G5 30 us := h.r5.turns ht (h.r5.apart (by decide) h.own.1)
  have q3 : VRow w2 G3 30 zs := h.r3.turns ht (h.r3.apart (by decide) h.own.1)
  have t : Turns (fun i => i = G5) w2 (w2.setRow G5 us'.toArray) := Turns.setRow (S := fun i => i = G5) (Turns.refl _ w2) (fun _ => rfl) _
  have ha := q5.apart (by decide) ho.1
  exact ⟨q5, ⟨ho.1.turns t (fun q => ha (.inl q.symm)) (fun b hb q => ha (.inr (by rw [hb, q]))), below_setRow ho.2.1 h.ge5 _, ho.2.2⟩, BlkAt.turned hr q5 t, q5.setRow us', q3.turns t (fun q => h.ne q.symm), h.ne, h.ge5, h.ge3⟩
theorem PlAt.stored {w wr : World} {g : Nat} {m : Option Nat} {S : Bs} {G5 G3 : Nat} {us zs : List Value} (h : PlAt w wr g m S G5 G3 us zs) :
    Owned w (wr.setRow G3 us.toArray) 7 g m S ∧ RefV (wr.setRow G3 us.toArray) 7 us S ∧ VRow (wr.setRow G3 us.toArray) G3 30 us ∧ VRow (wr.setRow G3 us.toArray) G5 30 us := by
  have t : Turns (fun i => i = G3) wr (wr.setRow G3 us.toArray) := Turns.setRow (S := fun i => i = G3) (Turns.refl _ wr) (fun _ => rfl) _
  have ha := h.r3.apart (by decide) h.own.1
  exact ⟨⟨h.own.1.turns t (fun q => ha (.inl q.symm)) (fun b hb q => ha (.inr (by rw [hb, q]))), below_setRow h.own.2.1 h.ge3 _, h.own.2.2⟩, BlkAt.turned h.ref h.r3 t, h.r3.setRow us, h.r5.turns t h.ne⟩
def PlRel (w wr : World) (g G5 G3 : Nat) (zs : List Value) (al : List AcP) (s : Value) : Prop := ∃ (i : Nat) (m : Option Nat) (us : List Value), i ≤ al.length ∧ i ≤ 60 ∧ s = .int .i64 (i : Int) ∧ PlAt w wr g m ((al.take i).foldl actF bs0) G5 G3 us zs
theorem size_act (a : AcP) (b : Value) : (Try.prog.info? 38).map (·.size) = some (acC a b).length := by kernel_rfl

theorem results_tmp_row {P : Program} {fn : Func} {p q : Tmp} {ty : TypeId} (h : fn.results = #[.tmp p, .cell q ty]) (tmps : Array Value) (w : World) (g : Nat) (t : TypeId) (cs : Array Value) (fr : Nat × Nat) (d : TypeDesc)
    (hp : tmps.getD q undef = .pointer (some ⟨g, 0, none⟩)) (hg : w.heap[g]? = some (.cells cs t fr))
    (hu : P.underlying ty = some d) (hd : (match d with | .struct _ | .array _ _ => true | _ => false) = true) (hi : (P.info? ty).map (·.size) = some cs.size) :
    (results fn tmps).run P w = .ok (.tuple #[tmps.getD p undef, .agg cs]) w := by
  have hp' : tmps[q]?.getD undef = .pointer (some ⟨g, 0, none⟩) := by simpa using hp
  simp [results, h, hp', asAddr, run_loadVar_row w g t ty cs fr d hg hu hd hi]

set_option maxRecDepth 100000 in
set_option maxHeartbeats 6400000 in
theorem played_any (v : Value) (al : List AcP) (w w0 : World) (hb0 : Below w.heap.size w w0) (hv : ActS w w.heap.size v al) :
    Calls Try.prog 5 #[v] w0 fun e w' => ∃ g m us, e = .returned (.tuple #[.pointer (some ⟨g, 0, none⟩), .agg us.toArray]) ∧ Owned w w' 7 g m (playF al) ∧ RefV w' 7 us (playF al) := by
  have hzr := zero_ref
  have hbr := build_ref
  have hzl := zRef_len
  have hzi : (Try.prog.info? 30).map (·.size) = some zRef.length := by rw [zRef_len]; exact info_refbook
  have hz1 : zRef.toArray.all (·.oneCell') = true := (zRef_refV w 7).one
  have hzv := fun W => zRef_refV W 7
  obtain ⟨Av, cap, hvf, hvl, hok, _⟩ := id hv
  subst hvf
  obtain ⟨ZS, hZS⟩ : ∃ ZS, ZS = zRef := ⟨_, rfl⟩
  rw [← hZS] at hzl hzi hz1
  rw [← hZS] at hzr hbr
  simp only [← hZS] at hzv
  obtain ⟨PF, hPF⟩ : ∃ PF, PF = playF al := ⟨_, rfl⟩
  rw [← hPF]
  have HPF := Lib.hid hPF
  have HBR := Lib.hid hbr
  have HZL := Lib.hid hzl
  have HZI := Lib.hid hzi
  have HZ1 := Lib.hid hz1
  have HZV := Lib.hid hzv
  have HB0 := Lib.hid hb0
  have HV := Lib.hid hv
  have HOK := Lib.hid hok
  clear hbr hzl hzi hz1 hzv hb0 hv hok hZS hPF
  go_enter Try.func5, Try.ntmps5
  go_wp2_with fail
  refine (new_any 7 _).mono ?_
  rintro e w2 ⟨rfl, hbk, hbl⟩
  have r3 := VRow.new w0 30 ZS
  have b1 : Below w.heap.size w (w0.alloc (.cells ZS.toArray 30)) := HB0.out.alloc HB0.out.size _
  have hsz : (w0.alloc (.cells ZS.toArray 30)).heap.size = w0.heap.size + 1 := by simp
  have HO := Lib.hid (show Owned w w2 7 (w0.alloc (.cells ZS.toArray 30)).heap.size none bs0 from ⟨hbk, b1.trans (hbl.mono b1.size), b1.size, fun b q => by cases q⟩)
  have R3 := Lib.hid (show VRow w2 w0.heap.size 30 ZS from r3.below hbl r3.lt)
  obtain ⟨g, hg⟩ : ∃ g, g = (w0.alloc (.cells ZS.toArray 30)).heap.size := ⟨_, rfl⟩
  obtain ⟨G3, hG3⟩ : ∃ G3, G3 = w0.heap.size := ⟨_, rfl⟩
  rw [← hg] at HO ⊢
  rw [← hG3] at R3 ⊢
  have HG3 := Lib.hid (show w.heap.size ≤ G3 by rw [hG3]; exact HB0.out.size)
  have HG3l := Lib.hid (show G3 < w2.heap.size from R3.out.lt)
  clear hbk hbl hg r3 b1 hG3 hsz
  go_upto_region 2 with (first
    | (refine wpList_build_lit rfl 30 _ (.agg ZS.toArray) rfl (fun W => by (simp only [List.map_toArray, List.map_nil]; exact HBR.out W)) ?_)
    | (refine wpList_store_vrow rfl 30 _ _ rfl rfl rfl (VRow.new _ _ ZS) HZI.out rfl HZ1.out ?_))
  change Code.wp _ _ _ _ ((w2.alloc (.cells ZS.toArray 30)).setRow w2.heap.size ZS.toArray)
  have hpl : PlAt w ((w2.alloc (.cells ZS.toArray 30)).setRow w2.heap.size ZS.toArray) g none bs0 w2.heap.size G3 ZS ZS := by
    have r := (VRow.new w2 30 ZS).setRow ZS
    have b : Below w2.heap.size w2 ((w2.alloc (.cells ZS.toArray 30)).setRow w2.heap.size ZS.toArray) := below_setRow ((Below.refl _ w2).alloc (Nat.le_refl _) _) (Nat.le_refl _) _
    exact ⟨HO.out.below b, HZV.out _, r, R3.out.below b HG3l.out, by have := HG3l.out; omega, HO.out.2.1.size, HG3.out⟩
  obtain ⟨w3, hw3⟩ : ∃ z, z = ((w2.alloc (.cells ZS.toArray 30)).setRow w2.heap.size ZS.toArray) := ⟨_, rfl⟩
  obtain ⟨G5, hG5⟩ : ∃ z, z = w2.heap.size := ⟨_, rfl⟩
  rw [← hw3, ← hG5] at hpl ⊢
  have HPL := Lib.hid hpl
  clear hpl hw3 hG5
  go_wp2_with fail
  go_loopw [6] (fun s wr => PlRel w wr g G5 G3 ZS al s) (fun s _ => 60 - (intOf s).toNat)
  case atStart => exact ⟨0, none, ZS, Nat.zero_le _, by omega, rfl, HPL.out⟩
  case round =>
    obtain ⟨i, m, us, hi, hi60, rfl, hpa⟩ := hrel
    by_cases hlt : i < al.length ∧ i < 60
    · as_aux_lemma =>
      obtain ⟨hl1, hl2⟩ := hlt
      have d1 : decide ((i : Int) < (al.length : Int)) = true := decide_eq_true (by omega)
      have d2 : decide ((i : Int) < 60) = true := decide_eq_true (by omega)
      obtain ⟨a, ha⟩ : ∃ a, al[i]? = some a := ⟨_, List.getElem?_eq_getElem hl1⟩
      have haok := HOK.out a (List.mem_of_getElem? ha)
      obtain ⟨A', cap', e1, _, _, hrg0⟩ := HV.out
      injection e1 with e1 e1n e1c
      subst e1 e1c
      obtain ⟨b, o, rfl, hbl, hrg⟩ := hrg0 (by rintro rfl; simp at hl1)
      obtain ⟨bv, hrv, hby⟩ := hrg i a ha
      have hok := ok_play (al.take i) ok_zero (fun x hx => HOK.out x (List.mem_of_mem_take hx))
      have hn : 0 + (al.take i).length ≤ 500 := by rw [List.length_take]; omega
      have hnx := plays_next bs0 ha
      obtain ⟨T, hT⟩ : ∃ T, T = (al.take i).foldl actF bs0 := ⟨_, rfl⟩
      rw [← hT] at hpa hok hnx
      have hdo := fun W (h1 : Owned w W 7 g m T) (h2 : RefV W 7 us T) => do_any g _ m us T a bv w W h1 h2 hok hn haok hby
      have hrv4 : wr.drew.rangeAt b (o + i * 5) (acC a bv) := fun j v hv => (hpa.own.2.1.cell (p := ⟨b, _, none⟩) hbl).trans (hrv j v hv)
      obtain ⟨AC, hAC⟩ : ∃ AC, AC = acC a bv := ⟨_, rfl⟩
      have hsa := size_act a bv
      rw [← hAC] at hrv4 hsa
      simp only [← hAC] at hdo
      have HDO := Lib.hid hdo
      have HRV := Lib.hid hrv4
      have HPA := Lib.hid hpa
      have HSA := Lib.hid hsa
      have HNX := Lib.hid hnx
      have HSZ := Lib.hid hpa.ref.size
      have hbG : ¬ b = G5 := fun q => by have := hpa.ge5; omega
      have HBG := Lib.hid hbG
      clear hdo hrv4 hpa hsa hnx hbG hT hAC hrv hby hrg hrg0 hok hn haok ha e1n
      go_wp2_with fail
      refine wp_region_held_drew (S := (fun w' => w'.rangeAt b (o + i * 5) AC)) (by kernel_rfl) ?_ (fun hHeld => ?_)
      · exact HRV.out
      refine wpAnyH_take (i := 0) (oi := { dst := some 19, op := Go.Op.move (Go.Operand.tmp 4), type := 24, pos := "law.go:80", after := #[], guard := none }) (v := ?av0) rfl (by kernel_rfl) (by kernel_rfl) (by kernel_rfl) (fun _ _ _ h => h) (Or.inl ⟨by rfl, ?ay0⟩) (by assumption) ?ar0
      case ay0 => (intro w hSw; (try dsimp only at hSw); go_simp; try (with_reducible rfl))
      case ar0 =>
      try simp only [Act.put, List.setIfInBounds_toArray, List.set_cons_zero, List.set_cons_succ]
      refine wpAnyH_take (i := 2) (oi := { dst := some 21, op := Go.Op.move (Go.Operand.tmp 0), type := 22, pos := "law.go:80", after := #[], guard := none }) (v := ?av2) rfl (by kernel_rfl) (by kernel_rfl) (by kernel_rfl) (fun _ _ _ h => h) (Or.inl ⟨by rfl, ?ay2⟩) (by assumption) ?ar2
      case ay2 => (intro w hSw; (try dsimp only at hSw); go_simp; try (with_reducible rfl))
      case ar2 =>
      try simp only [Act.put, List.setIfInBounds_toArray, List.set_cons_zero, List.set_cons_succ]
      refine wpAnyH_take (i := 3) (oi := { dst := some 22, op := Go.Op.move (Go.Operand.tmp 6), type := 3, pos := "law.go:80", after := #[], guard := none }) (v := ?av3) rfl (by kernel_rfl) (by kernel_rfl) (by kernel_rfl) (fun _ _ _ h => h) (Or.inl ⟨by rfl, ?ay3⟩) (by assumption) ?ar3
      case ay3 => (intro w hSw; (try dsimp only at hSw); go_simp; try (with_reducible rfl))
      case ar3 =>
      try simp only [Act.put, List.setIfInBounds_toArray, List.set_cons_zero, List.set_cons_succ]
      refine wpAnyH_take (i := 4) (oi := { dst := some 23, op := Go.Op.indexAddr 22 (Go.Operand.tmp 21) (Go.Operand.tmp 22), type := 0, pos := "law.go:80", after := #[{ on := 2, ground := Go.Ground.data }, { on := 3, ground := Go.Ground.data }], guard := none }) (v := ?av4) rfl (by kernel_rfl) (by kernel_rfl) (by kernel_rfl) (fun _ _ _ h => h) (Or.inl ⟨by rfl, ?ay4⟩) (by assumption) ?ar4
      case ay4 => (intro w hSw; (try dsimp only at hSw); go_simp; try (with_reducible rfl))
      case ar4 =>
      try simp only [Act.put, List.setIfInBounds_toArray, List.set_cons_zero, List.set_cons_succ]
      refine wpAnyH_take (i := 5) (oi := { dst := some 24, op := Go.Op.load 38 (Go.Operand.tmp 23), type := 38, pos := "law.go:80", after := #[{ on := 4, ground := Go.Ground.data }], guard := none }) (v := (.agg AC.toArray)) rfl (by kernel_rfl) (by kernel_rfl) (by kernel_rfl) (fun _ _ _ h => h) (yieldsIf_load_mid (by rfl) 38 (.tmp 23) rfl b (o + i * 5) rfl AC _ (fun w' h => h) Try.underlying38 rfl HSA.out) (by assumption) ?_
      try simp only [Act.put, List.setIfInBounds_toArray, List.set_cons_zero, List.set_cons_succ]
      refine wpAnyH_ready (rs := [1]) (by kernel_rfl) (by simp) ?_
      refine AllReadyH.cons (o := { dst := some 20, op := Go.Op.load 30 (Go.Operand.tmp 5), type := 30, pos := "law.go:80", after := #[], guard := none }) rfl (fun K hK => ?_) (AllReadyH.nil)
      refine wp_load_mid 30 (.tmp 5) rfl G5 0 rfl us _ (vrow_range0 HPA.out.drew.r5) Try.underlying30 rfl HSZ.out ?_
      refine hK.out _ _ ?_ (fun hHeld => ?_)
      · exact HRV.out
      clear hK K
      try simp only [Act.put, List.setIfInBounds_toArray, List.set_cons_zero, List.set_cons_succ]
      refine wpAnyH_ready (rs := [6]) (by kernel_rfl) (by simp) ?_
      refine AllReadyH.cons (o := { dst := some 25, op := Go.Op.call { callee := Go.Callee.value (Go.Operand.func 8), args := #[Go.Operand.tmp 19, Go.Operand.tmp 20, Go.Operand.tmp 24], argTypes := #[24, 30, 38] }, type := 30, pos := "law.go:80", after := #[{ on := 0, ground := Go.Ground.data }, { on := 1, ground := Go.Ground.data }, { on := 5, ground := Go.Ground.data }], guard := none }) rfl (fun K hK => ?_) (AllReadyH.nil)
      go_simp
      refine (HDO.out _ HPA.out.drew.own HPA.out.drew.ref).mono ?_
      rintro e4 w4 ⟨us4, m4, rfl, ho4, hr4, ht4⟩
      have P4 := Lib.hid (HPA.out.drew.done ho4 hr4 ht4)
      have R4 := Lib.hid hr4
      have L4 := Lib.hid (show us.length = us4.length by rw [hr4.1.len, HPA.out.ref.1.len])
      have K4 := Lib.hid (show w4.rangeAt b (o + i * 5) AC from fun j v hv => (ht4.cell (p := ⟨b, _, none⟩) (Nat.lt_of_lt_of_le hbl HPA.out.own.2.1.size) (fun q => by have q' : b = g ∨ m = some b := q; rcases q' with q' | q'; (have := HPA.out.own.2.2.1; omega); (have := HPA.out.own.2.2.2 b q'; omega))).trans (HRV.out j v hv))
      have B4 := Lib.hid (show b < w4.heap.size from Nat.lt_of_lt_of_le (Nat.lt_of_lt_of_le hbl HPA.out.own.2.1.size) ht4.size)
      refine hK.out _ _ ?_ (fun hHeld => ?_)
      · exact K4.out
      clear hK K
      try simp only [Act.put, List.setIfInBounds_toArray, List.set_cons_zero, List.set_cons_succ]
      refine wpAnyH_ready (rs := [7]) (by kernel_rfl) (by simp) ?_
      refine AllReadyH.cons (o := { dst := none, op := Go.Op.store 30 (Go.Operand.tmp 5) (Go.Operand.tmp 25), type := 0, pos := "law.go:80", after := #[{ on := 6, ground := Go.Ground.data }, { on := 6, ground := Go.Ground.chain }, { on := 0, ground := Go.Ground.phase }, { on := 1, ground := Go.Ground.phase }, { on := 2, ground := Go.Ground.phase }, { on := 3, ground := Go.Ground.phase }, { on := 4, ground := Go.Ground.phase }, { on := 5, ground := Go.Ground.phase }, { on := 6, ground := Go.Ground.phase }], guard := none }) rfl (fun K hK => ?_) (AllReadyH.nil)
      refine wp_store_vrow 30 (.tmp 5) (.tmp 25) rfl rfl rfl P4.out.1 R4.out.size L4.out R4.out.one ?_
      refine hK.out _ _ ?_ (fun hHeld => ?_)
      · exact fun j v hv => ((Turns.setRow (S := fun q => q = G5) (Turns.refl _ w4) (fun _ => rfl) us4.toArray).cell (p := ⟨b, _, none⟩) B4.out HBG.out).trans (K4.out j v hv)
      clear hK K
      try simp only [Act.put]
      refine wpAnyH_done (by kernel_rfl) ?_ _
      have HEND := Lib.hid P4.out.2
      clear ho4 hr4 ht4
      go_wp2_with fail
      exact ⟨⟨i + 1, m4, us4, hl1, hl2, by first | rfl | (rw [wrap_small2 (by omega) (by omega)]; rfl), by (have q := HEND.out; rw [HNX.out]; exact q)⟩, by first | exact meas_add hl2 | exact meas_up hl2⟩
    · have hpf : (al.take i).foldl actF bs0 = PF := by
        rw [HPF.out]
        unfold playF
        congr 1
        rcases Nat.lt_or_ge i 60 with h1 | h1
        · rw [List.take_of_length_le (by omega), List.take_of_length_le (by omega)]
        · rw [show i = 60 by omega]
      rw [hpf] at hpa
      have HPA := Lib.hid hpa
      have HSZ := Lib.hid hpa.ref.size
      have H1 := Lib.hid hpa.ref.one
      have HL := Lib.hid (show ZS.length = us.length by rw [HZL.out, hpa.ref.1.len])
      have hcase : (i < al.length ∧ ¬ i < 60) ∨ ¬ i < al.length := by omega
      clear hpa hpf hlt
      rcases hcase with ⟨c1, c2⟩ | c1
      · as_aux_lemma =>
        have d1 : decide ((i : Int) < (al.length : Int)) = true := decide_eq_true (by omega)
        have d2 : decide ((i : Int) < 60) = false := decide_eq_false (by omega)
        go_wp2_with fail
        refine wp_region_held_drew (S := (fun w' => VRow w' G5 30 us)) (by kernel_rfl) ?_ (fun hHeld => ?_)
        · exact HPA.out.r5
        refine wpAnyH_take (i := 0) (oi := { dst := some 26, op := Go.Op.move (Go.Operand.tmp 4), type := 24, pos := "law.go:82", after := #[], guard := none }) (v := ?bv0) rfl (by kernel_rfl) (by kernel_rfl) (by kernel_rfl) (fun _ _ _ h => h) (Or.inl ⟨by rfl, ?by0⟩) (by assumption) ?br0
        case by0 => (intro w hSw; (try dsimp only at hSw); go_simp; try (with_reducible rfl))
        case br0 =>
        try simp only [Act.put, List.setIfInBounds_toArray, List.set_cons_zero, List.set_cons_succ]
        refine wpAnyH_take (i := 1) (oi := { dst := some 27, op := Go.Op.load 30 (Go.Operand.tmp 5), type := 30, pos := "law.go:82", after := #[{ on := 2, ground := Go.Ground.gcOnly Go.Departure.lateStores }], guard := none }) (v := (.agg us.toArray)) rfl (by kernel_rfl) (by kernel_rfl) (by kernel_rfl) (fun _ _ _ h => h) (yieldsIf_load_mid (by rfl) 30 (.tmp 5) rfl G5 0 rfl us _ (fun w' h => vrow_range0 h) Try.underlying30 rfl HSZ.out) (by assumption) ?_
        try simp only [Act.put, List.setIfInBounds_toArray, List.set_cons_zero, List.set_cons_succ]
        refine wpAnyH_take (i := 2) (oi := { dst := some 2, op := Go.Op.assign (Go.Operand.tmp 26), type := 24, pos := "law.go:82", after := #[{ on := 0, ground := Go.Ground.data }, { on := 0, ground := Go.Ground.phase }, { on := 1, ground := Go.Ground.textOnly Go.Departure.lateStores }], guard := none }) (v := ?bv2) rfl (by kernel_rfl) (by kernel_rfl) (by kernel_rfl) (fun _ _ _ h => h) (Or.inl ⟨by rfl, ?by2⟩) (by assumption) ?br2
        case by2 => (intro w hSw; (try dsimp only at hSw); go_simp; try (with_reducible rfl))
        case br2 =>
        try simp only [Act.put, List.setIfInBounds_toArray, List.set_cons_zero, List.set_cons_succ]
        refine wpAnyH_ready (rs := [3]) (by kernel_rfl) (by simp) ?_
        refine AllReadyH.cons (o := { dst := none, op := Go.Op.store 30 (Go.Operand.tmp 3) (Go.Operand.tmp 27), type := 0, pos := "law.go:82", after := #[{ on := 1, ground := Go.Ground.data }, { on := 2, ground := Go.Ground.chain }, { on := 0, ground := Go.Ground.phase }, { on := 1, ground := Go.Ground.phase }, { on := 2, ground := Go.Ground.phase }], guard := none }) rfl (fun K hK => ?_) (AllReadyH.nil)
        refine wp_store_vrow 30 (.tmp 3) (.tmp 27) rfl rfl rfl HPA.out.drew.r3 HSZ.out HL.out H1.out ?_
        refine hK.out _ _ ?_ (fun hHeld => ?_)
        · exact HPA.out.drew.stored.2.2.2
        clear hK K
        try simp only [Act.put]
        refine wpAnyH_done (by kernel_rfl) ?_ _
        go_wp2_with fail
        refine bodyPost_ret (v := .tuple #[.pointer (some ⟨g, 0, none⟩), .agg us.toArray]) ?_ rfl ⟨g, m, us, rfl, HPA.out.drew.stored.1, HPA.out.drew.stored.2.1⟩
        exact results_tmp_row Try.results5 _ _ G3 30 us.toArray (0, 0) _ rfl HPA.out.drew.stored.2.2.1 Try.underlying30 rfl (by rw [List.size_toArray]; exact HSZ.out)
      · as_aux_lemma =>
        have d1 : decide ((i : Int) < (al.length : Int)) = false := decide_eq_false (by omega)
        go_wp2_with fail
        refine wp_region_held_drew (S := (fun w' => VRow w' G5 30 us)) (by kernel_rfl) ?_ (fun hHeld => ?_)
        · exact HPA.out.r5
        refine wpAnyH_take (i := 0) (oi := { dst := some 26, op := Go.Op.move (Go.Operand.tmp 4), type := 24, pos := "law.go:82", after := #[], guard := none }) (v := ?cv0) rfl (by kernel_rfl) (by kernel_rfl) (by kernel_rfl) (fun _ _ _ h => h) (Or.inl ⟨by rfl, ?cy0⟩) (by assumption) ?cr0
        case cy0 => (intro w hSw; (try dsimp only at hSw); go_simp; try (with_reducible rfl))
        case cr0 =>
        try simp only [Act.put, List.setIfInBounds_toArray, List.set_cons_zero, List.set_cons_succ]
        refine wpAnyH_take (i := 1) (oi := { dst := some 27, op := Go.Op.load 30 (Go.Operand.tmp 5), type := 30, pos := "law.go:82", after := #[{ on := 2, ground := Go.Ground.gcOnly Go.Departure.lateStores }], guard := none }) (v := (.agg us.toArray)) rfl (by kernel_rfl) (by kernel_rfl) (by kernel_rfl) (fun _ _ _ h => h) (yieldsIf_load_mid (by rfl) 30 (.tmp 5) rfl G5 0 rfl us _ (fun w' h => vrow_range0 h) Try.underlying30 rfl HSZ.out) (by assumption) ?_
        try simp only [Act.put, List.setIfInBounds_toArray, List.set_cons_zero, List.set_cons_succ]
        refine wpAnyH_take (i := 2) (oi := { dst := some 2, op := Go.Op.assign (Go.Operand.tmp 26), type := 24, pos := "law.go:82", after := #[{ on := 0, ground := Go.Ground.data }, { on := 0, ground := Go.Ground.phase }, { on := 1, ground := Go.Ground.textOnly Go.Departure.lateStores }], guard := none }) (v := ?cv2) rfl (by kernel_rfl) (by kernel_rfl) (by kernel_rfl) (fun _ _ _ h => h) (Or.inl ⟨by rfl, ?cy2⟩) (by assumption) ?cr2
        case cy2 => (intro w hSw; (try dsimp only at hSw); go_simp; try (with_reducible rfl))
        case cr2 =>
        try simp only [Act.put, List.setIfInBounds_toArray, List.set_cons_zero, List.set_cons_succ]
        refine wpAnyH_ready (rs := [3]) (by kernel_rfl) (by simp) ?_
        refine AllReadyH.cons (o := { dst := none, op := Go.Op.store 30 (Go.Operand.tmp 3) (Go.Operand.tmp 27), type := 0, pos := "law.go:82", after := #[{ on := 1, ground := Go.Ground.data }, { on := 2, ground := Go.Ground.chain }, { on := 0, ground := Go.Ground.phase }, { on := 1, ground := Go.Ground.phase }, { on := 2, ground := Go.Ground.phase }], guard := none }) rfl (fun K hK => ?_) (AllReadyH.nil)
        refine wp_store_vrow 30 (.tmp 3) (.tmp 27) rfl rfl rfl HPA.out.drew.r3 HSZ.out HL.out H1.out ?_
        refine hK.out _ _ ?_ (fun hHeld => ?_)
        · exact HPA.out.drew.stored.2.2.2
        clear hK K
        try simp only [Act.put]
        refine wpAnyH_done (by kernel_rfl) ?_ _
        go_wp2_with fail
        refine bodyPost_ret (v := .tuple #[.pointer (some ⟨g, 0, none⟩), .agg us.toArray]) ?_ rfl ⟨g, m, us, rfl, HPA.out.drew.stored.1, HPA.out.drew.stored.2.1⟩
        exact results_tmp_row Try.results5 _ _ G3 30 us.toArray (0, 0) _ rfl HPA.out.drew.stored.2.2.1 Try.underlying30 rfl (by rw [List.size_toArray]; exact HSZ.out)
end Go.Proofs.Ytfhpodeppmnopaa
