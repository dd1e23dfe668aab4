/-
  The law on the form of many keys. Conditions: none.
-/
import Derived.Test.YtadgaeokiolmmaaSnKindM
import Derived.Test.YtadgaeokiolmmaaSnProg
namespace Go.Proofs.Ytadgaeokiolmmaa
open Go.RowKit

theorem BagR.take {w : World} {B n c k : Nat} {A : Option Addr} {L : List (Value × List UInt8)} (h : BagR w B (.slice A n c) L) (hk : k ≤ L.length) : BagR w B (.slice A k c) (L.take k) := by
  obtain ⟨⟨A', c', e, h1, h2, h3⟩, h4⟩ := h
  obtain ⟨e1, _, e3⟩ := Value.slice.inj e
  subst e1 e3
  have hl : (L.take k).length = k := by rw [List.length_take]; omega
  refine ⟨⟨A, c, by rw [hl], by omega, h2, fun hne => ?_⟩, fun p hp => h4 p (List.mem_of_mem_take hp)⟩
  obtain ⟨b, o, e', hb, hc⟩ := h3 (by rintro rfl; simp at hne)
  exact ⟨b, o, e', hb, fun i p hp => hc i p (by rw [List.getElem?_take] at hp; split at hp; exact hp; cases hp)⟩
theorem BagR.cap {w : World} {B n c : Nat} {A : Option Addr} {L : List (Value × List UInt8)} (h : BagR w B (.slice A n c) L) : L.length ≤ c ∧ c ≤ 9223372036854775807 := by
  obtain ⟨⟨A', c', e, h1, h2, _⟩, _⟩ := h
  obtain ⟨_, _, e3⟩ := Value.slice.inj e
  subst e3
  unfold maxLen at h2
  exact ⟨h1, h2⟩

/-- append of a slice of slices of bytes. -/
theorem wpList_append_bags {w : World} {ops : Array Oper} {rest : List Oper} {o : Oper} {a : Act} {Q : Exit → Act → World → Prop} (hgd : Region.wanted o (yielded ops a.tmps) = true) (s x : Operand)
    (ho : o.op = .call { callee := .builtin .append, args := #[s, x], argTypes := #[46, 46] })
    (base : Nat) (v : Value) (n : Nat) (xs : List Value) (hs : a.eval s = v) (hown : w.ownsRow base 22 1 v n xs)
    (B : Nat) (u : Value) (L : List (Value × List UInt8)) (hx : a.eval x = u) (hr : BagR w B u L) (hne : L ≠ []) (hk : ∀ p ∈ L, p.1.oneCell' = true)
    (hb : (n + L.length) * 24 ≤ 140737488355328) (hbase : base ≤ w.heap.size)
    (h : ∀ v' w', w'.ownsRow base 22 1 v' (n + L.length) (xs ++ L.map (·.1)) → w.grownBy w' v.ownBlock → wpList Try.prog ops Q rest (a.put o.dst v') w') :
    wpList Try.prog ops Q (o :: rest) a w := by
  obtain ⟨i, hi, hz, hsz, hby⟩ := info_parts info_bag
  obtain ⟨⟨A, c, rfl, h1, h2, h3⟩, _⟩ := hr
  obtain ⟨b, off, rfl, _, hc⟩ := h3 hne
  refine wpList_step fun K hK => ?_
  rw [if_pos hgd]
  obtain ⟨v', w', hrun, h2', h3', _, _⟩ := run_append_own_at (P := Try.prog) w base 46 o.type 22 i _ 1 24 slice_bag hi hz hsz hby rfl (by decide) v n xs hown ⟨b, off, none⟩ L.length c (L.map (·.1)) (by rw [List.length_map, Nat.mul_one])
    (by
      intro j u hu
      rw [List.getElem?_map] at hu
      cases hp : L[j]? with
      | none => rw [hp] at hu; cases hu
      | some p =>
        rw [hp] at hu
        have := hc j p hp
        rw [← Option.some.inj hu]
        exact (congrArg w.cell? (by unfold Addr.add; split <;> simp_all)).trans this)
    (by intro u hu; obtain ⟨p, hp, rfl⟩ := List.mem_map.1 hu; exact hk p hp) (by unfold maxLen; omega) hb hbase
  unfold Oper.wp execOp
  simp only [ho, resolve, invoke, builtin, Sem.run_bind, Sem.run_pure, Result.andThen_ok, List.map_toArray, List.map_cons, List.map_nil, hs, hx, hrun]
  exact hK _ _ (h v' w' h2' h3')

theorem mF_of {m : Int} {ks : List (List UInt8)} (h : mE m ks = 0) : mF m ks = multiForm m ks ∧ 1 ≤ m ∧ m ≤ (ks.length : Int) ∧ ks.length ≤ 16 ∧ ks.any (fun k => k.length != 33) = false := by
  refine ⟨by unfold mF; rw [if_pos h], ?_⟩
  unfold mE at h
  split at h
  · cases h
  · split at h
    · cases h
    · rename_i h1 h2
      exact ⟨by omega, by omega, by omega, by simpa using h2⟩
theorem mE_all (m : Int) (ks : List (List UInt8)) : mE m ks = 0 ∨ mE m ks = 1 ∨ mE m ks = 3 := by
  unfold mE
  split
  · exact .inr (.inl rfl)
  · split
    · exact .inr (.inr rfl)
    · exact .inl rfl

/-- The law, from the loop on. -/
def Keys (K : List (Value × List UInt8)) : List (List UInt8) := K.map (fun p => p.2.take 40)
theorem keys_take {K : List (Value × List UInt8)} {k : Nat} (h : k < K.length) : Keys (K.take (k + 1)) = Keys (K.take k) ++ [K[k].2.take 40] := by
  unfold Keys
  rw [List.take_succ_eq_append_getElem h, List.map_append]
  rfl

set_option maxRecDepth 100000 in
set_option maxHeartbeats 25600000 in
theorem multis_law (m : Int) (h0 : -9223372036854775808 ≤ m) (h1 : m ≤ 9223372036854775807) (B : Nat) (x : Value) (K0 : List (Value × List UInt8)) (w : World) (hx : BagR w B x K0) (hB : B ≤ w.heap.size) :
    Calls Try.prog 8 #[.int .i64 m, x] w fun e w' => e = .returned (.bool true) ∧ Below w.heap.size w w' := by
  have hlen := hx.len
  have HX := Lib.hid hx
  obtain ⟨A, c, rfl⟩ := hx.form
  obtain ⟨hc1, hc2⟩ := hx.cap
  clear hx
  have HAWK := Lib.hid (awake_any w)
  obtain ⟨n1, hn1⟩ : ∃ n1, n1 = min K0.length 20 := ⟨_, rfl⟩
  have hxt := HX.out.take (k := n1) (by omega)
  obtain ⟨K, hK⟩ : ∃ K, K = K0.take n1 := ⟨_, rfl⟩
  have hKl : K.length = n1 := by rw [hK, List.length_take]; omega
  rw [← hK] at hxt
  have HXT := Lib.hid hxt
  have HKL := Lib.hid hKl
  have hn20 : n1 ≤ 20 := by omega
  clear hxt hK hKl
  have hd : (20 < K0.length ∧ n1 = 20) ∨ (K0.length ≤ 20 ∧ n1 = K0.length) := by omega
  clear hn1
  rcases hd with ⟨hd, rfl⟩ | ⟨hd, rfl⟩
  all_goals
    first | (have hgt : decide ((20 : Int) < (K0.length : Int)) = true := decide_eq_true (by omega)) | (have hgt : decide ((20 : Int) < (K0.length : Int)) = false := decide_eq_false (by omega))
    try (have hcne : ¬ c = 0 := by omega)
    try (have hc20 : (20 : Int) ≤ (c : Int) := by omega)
    go_enter Try.func8, Try.ntmps8
    go_wp2_with fail
    refine HAWK.out.mono ?_
    rintro e w1 ⟨rfl, hb1⟩
    have HB1 := Lib.hid hb1
    have HX1 := Lib.hid (HXT.out.below (hb1.mono hB))
    have HBS := Lib.hid (Nat.le_trans hB hb1.size)
    clear hb1
    go_wp2_with fail
    go_loopw [5, 23] (fun s t wr => ∃ (k : Nat) (v : Value) (Q : List (Value × List UInt8)), v = s ∧ k ≤ K.length ∧ t = .int .i64 (k : Int) ∧ Hid (BagAt wr w1.heap.size v Q) ∧ Hid (Q.map (·.2) = Keys (K.take k)) ∧ Hid (Below w1.heap.size w1 wr)) (fun _ t _ => K.length - (intOf t).toNat)
    case atStart => exact ⟨0, _, [], rfl, Nat.zero_le _, rfl, Lib.hid (BagAt.nil _ _), Lib.hid rfl, Lib.hid (Below.refl _ _)⟩
    case round =>
      obtain ⟨k, v, Q, hv, hk, rfl, hown, hq, hbel⟩ := hrel
      subst hv
      have hQl : Q.length = k := by have := congrArg List.length hq.out; unfold Keys at this; simp at this; omega
      by_cases hlt : k < K.length
      · obtain ⟨⟨A', c', e0, _, _, h4⟩, h5⟩ := HX1.out.below (hbel.out.mono HBS.out)
        obtain ⟨e1, e2, e3⟩ := Value.slice.inj e0
        subst e1 e3
        obtain ⟨b, o, rfl, hb, hc⟩ := h4 (by rintro rfl; simp at hlt)
        have hc0 := hc k _ (List.getElem?_eq_getElem hlt)
        have hby := h5 _ (List.getElem_mem hlt)
        have hkt := keys_take hlt
        obtain ⟨⟨pd, ys⟩, hpe⟩ : ∃ p, p = K[k] := ⟨_, rfl⟩
        rw [← hpe] at hc0 hby hkt
        dsimp only at hc0 hby hkt
        obtain ⟨Ad, cd, rfl⟩ := hby.form
        have hsh := shorts_any B _ ys 40 (by omega) wr hby
        obtain ⟨zs, hz⟩ : ∃ zs, zs = ys.take 40 := ⟨_, rfl⟩
        have hzl : zs.length ≤ 40 := by rw [hz]; exact List.length_take_le _ _
        rw [← hz] at hsh hkt
        have HSH := Lib.hid hsh
        have HKT := Lib.hid hkt
        have HQL := Lib.hid hQl
        have hlt1 := hlt
        rw [HKL.out] at hlt1
        have hdk : decide (k < _) = true := decide_eq_true hlt1
        clear hc h4 h5 e0 e2 hby hkt hpe hsh hz
        go_wp2_with fail
        refine HSH.out.mono ?_
        rintro e w2 ⟨⟨y2, rfl, hy2⟩, rfl⟩
        obtain ⟨A2, c2, rfl⟩ := hy2.form
        have HCP := Lib.hid (rcopy_any B _ zs wr hy2 (by omega))
        clear hy2
        go_wp2_with fail
        refine HCP.out.mono ?_
        intro e w3 hfr
        obtain ⟨u3, rfl, hown3, hb3⟩ := fresh_v hfr
        obtain ⟨A3, c3, rfl⟩ := own_form hown3
        have hbag3 := (hown.out.below hb3)
        have hw3 : w1.heap.size ≤ w3.heap.size := Nat.le_trans hbel.out.size hb3.size
        have OWN3 := Lib.hid (World.ownsRow.alloc hbag3.1 (.cells #[.slice A3 zs.length c3] 22))
        have BAG3 := Lib.hid (hbag3.below (byt_below w3 (.cells #[.slice A3 zs.length c3] 22) (Nat.le_refl _)))
        have OU3 := Lib.hid (World.ownsRow.alloc (own_base hown3 hbel.out.size) (.cells #[.slice A3 zs.length c3] 22))
        have BEL3 := Lib.hid ((hbel.out.trans (hb3.mono hbel.out.size)).alloc hw3 (.cells #[.slice A3 zs.length c3] 22))
        have CELL := Lib.hid (cell_of_row _ w3.heap.size 0 _ _ _ (heap_alloc_new w3 (.cells #[.slice A3 zs.length c3] 22)))
        have HW3 := Lib.hid hw3
        clear hbag3 hfr hown3 hb3 hw3
        go_wp2_with (at_builtin; refine wpList_append_bag rfl (.tmp 27) (.tmp 31) rfl w1.heap.size _ Q.length _ rfl OWN3.out w3.heap.size (.slice A3 zs.length c3) rfl CELL.out rfl (by omega) (by have := HW3.out; simp; omega) ?_; intro v5 w5 hown5 hg5)
        have hbag5 := BAG3.out.snoc (p := (.slice A3 zs.length c3, zs)) OU3.out hown5 rfl hg5
        have hb5 : Below w1.heap.size w1 w5 := BEL3.out.grown hg5 (by have := HW3.out; simp; omega) (fun j hj => (World.ownsRow.lt OWN3.out j hj).1)
        have hq5 : (Q ++ [((.slice A3 zs.length c3 : Value), zs)]).map (·.2) = Keys (K.take (k + 1)) := by rw [List.map_append, hq.out, HKT.out]; rfl
        have HBAG5 := Lib.hid hbag5
        have HB5 := Lib.hid hb5
        have HQ5 := Lib.hid hq5
        clear hown5 hg5 hbag5 hb5 hq5
        go_roundw
        case rel => exact ⟨k + 1, _, _, rfl, by omega, by go_num, HBAG5, HQ5, HB5⟩
        case measure => have := HKL.out; simp [intOf]; omega
      · obtain rfl : k = K.length := by omega
        have hq2 := hq.out
        rw [List.take_length] at hq2
        have hq40 : ∀ p ∈ Q, p.2.length ≤ 40 := fun p hp => by
          have : p.2 ∈ Q.map (·.2) := List.mem_map.2 ⟨p, hp, rfl⟩
          rw [hq2] at this
          unfold Keys at this
          obtain ⟨q, _, e⟩ := List.mem_map.1 this
          rw [← e]
          exact List.length_take_le _ _
        have hbr := hown.out.toR
        obtain ⟨A5, c5, rfl⟩ := hbr.form
        have HQ40 := Lib.hid hq40
        have HBR := Lib.hid hbr
        have hQ20 : Q.length ≤ 20 := by rw [hQl, HKL.out]; exact hn20
        have HQ20 := Lib.hid hQ20
        obtain ⟨ks, hks⟩ : ∃ ks, ks = Q.map (·.2) := ⟨_, rfl⟩
        have hksl : ks.length = Q.length := by rw [hks, List.length_map]
        have HP1 := Lib.hid (payMulti_any m _ _ Q wr h0 h1 hbr (Nat.le_refl _) hQ20 hq40)
        have HP2 := Lib.hid (fun W (hb : Below wr.heap.size wr W) => rpayMulti_any m wr.heap.size _ Q W h0 h1 (hbr.below hb) hb.size hQ20 hq40)
        rw [← hks] at HP1 HP2
        have HKS := Lib.hid hks
        have HKSL := Lib.hid hksl
        have hnd : decide (K.length < K.length) = false := decide_eq_false (by omega)
        have hkn := HKL.out
        clear hq2 hq40 hbr hks hksl hlt hq hQ20 hQl
        rw [hkn]
        go_wp2_with fail
        refine HP1.out.mono ?_
        rintro e w2 ⟨A8, c8, rfl, by8, hb8⟩
        obtain ⟨E, hE⟩ : ∃ E, E = mE m ks := ⟨_, rfl⟩
        obtain ⟨F, hF⟩ : ∃ F, F = mF m ks := ⟨_, rfl⟩
        rw [← hF] at by8
        rw [← hF, ← hE]
        have R8 := Lib.hid by8
        have B8 := Lib.hid hb8
        have HEF := Lib.hid (And.intro hE hF)
        have hE3 := mE_all m ks
        rw [← hE] at hE3
        clear by8 hb8 hE hF
        go_wp2_with fail
        refine (HP2.out w2 B8.out).mono ?_
        rintro e w3 ⟨A9, c9, rfl, by9, hb9⟩
        rw [← HEF.out.2] at by9
        rw [← HEF.out.1, ← HEF.out.2]
        have R9 := Lib.hid by9
        have Q9 := Lib.hid (R8.out.below hb9)
        have B9 := Lib.hid (B8.out.trans (hb9.mono B8.out.size))
        clear by9 hb9
        go_wp2_with fail
        refine (equal_yes _ _ _ _ _ _ w3 Q9.out R9.out rfl).mono ?_
        rintro e w4 ⟨rfl, rfl⟩
        rcases hE3 with rfl | rfl | rfl
        · obtain ⟨hF, m1, m2, m3, m4⟩ := mF_of HEF.out.1.symm
          rw [← HEF.out.2] at hF
          have hq := Q9.out
          rw [hF] at hq
          have hkd := kind_multi _ _ m ks w3 hq m4 m1 m2 m3
          rw [← hF] at hkd
          have HKD := Lib.hid hkd
          have m16 : m ≤ 16 := by omega
          have hw8 : IntKind.u8.wrap m = m := by rw [IntKind.wrap_u8]; omega
          have hQne : Q ≠ [] := by rintro rfl; have := HKSL.out; simp at this; rw [this] at m2; simp at m2; omega
          have HQNE := Lib.hid hQne
          have M1 := Lib.hid m1
          clear hq hkd hF m4 m2 m3 hQne
          go_wp2_with fail
          refine HKD.out.mono ?_
          rintro e w5 ⟨v5, P, rfl, bag5, hp5, hb5⟩
          obtain ⟨A10, c10, rfl⟩ := bag5.form
          have hmk : Byt (w5.alloc (.cells #[.int .u8 m] 5)) (w5.heap.size + 1) (.slice (some ⟨w5.heap.size, 0, none⟩) 1 1) [b8 m] := Byt.made w5 5 [.int .u8 m] [b8 m] (by rw [List.map_cons, bv_b8_of (by have := M1.out; omega) (by omega)]; rfl) (by unfold maxLen; simp)
          have hown6 : ((w5.alloc (.cells #[.int .u8 m] 5)).alloc (.cells #[.slice (some ⟨w5.heap.size, 0, none⟩) 1 1] 22)).ownsRow (w5.heap.size + 1) 22 1 (.slice (some ⟨(w5.alloc (.cells #[.int .u8 m] 5)).heap.size, 0, none⟩) 1 1) 1 [.slice (some ⟨w5.heap.size, 0, none⟩) 1 1] :=
            ⟨by simp, .inr ⟨(w5.alloc (.cells #[.int .u8 m] 5)).heap.size, 1, _, rfl, by simp, heap_alloc_new _ _, Nat.le_refl _, by unfold maxLen; omega, rfl, rfl⟩⟩
          rw [World.size_alloc] at hown6
          have hbe6 : Below (w5.heap.size + 1) (w5.alloc (.cells #[.int .u8 m] 5)) ((w5.alloc (.cells #[.int .u8 m] 5)).alloc (.cells #[.slice (some ⟨w5.heap.size, 0, none⟩) 1 1] 22)) := byt_below _ _ (by simp)
          have hwr5 : Below wr.heap.size wr w5 := B9.out.trans (hb5.mono B9.out.size)
          have hbr6 := ((HBR.out.below hwr5).below (byt_below w5 (.cells #[.int .u8 m] 5) hwr5.size)).below (byt_below (w5.alloc (.cells #[.int .u8 m] 5)) (.cells #[.slice (some ⟨w5.heap.size, 0, none⟩) 1 1] 22) (by have := hwr5.size; simp; omega))
          have hone : ∀ p ∈ Q, p.1.oneCell' = true := fun p hp => by obtain ⟨Ax, cx, ex⟩ := (hbr6.2 p hp).form; rw [ex]; rfl
          have OWN6 := Lib.hid hown6
          have BE6 := Lib.hid hbe6
          have BR6 := Lib.hid hbr6
          have ONE := Lib.hid hone
          have BAG5 := Lib.hid bag5
          have HP5 := Lib.hid hp5
          have MK := Lib.hid hmk
          have BT5 := Lib.hid (HB1.out.trans ((hbel.out.trans (hwr5.mono hbel.out.size)).mono HB1.out.size))
          have hp5l : P.length = Q.length + 1 := by have := congrArg List.length hp5; rw [List.length_map, List.length_cons, HKSL.out] at this; exact this
          have HP5L := Lib.hid hp5l
          have WR5 := Lib.hid hwr5
          clear hmk hown6 hbe6 hbr6 hone bag5 hp5 hb5 hwr5 hp5l HKD
          go_wp2_with (at_builtin; refine wpList_append_bags (by rfl) (.tmp 69) (.tmp 70) rfl (w5.heap.size + 1) _ 1 _ rfl OWN6.out _ _ Q rfl BR6.out HQNE.out ONE.out (by have := HQ20.out; omega) (by simp) ?_; intro v7 w7 hown7 hg7)
          have hb7 := BE6.out.grown hg7 (by simp) (fun j hj => (World.ownsRow.lt OWN6.out j hj).1)
          have hb57 : Below w5.heap.size w5 w7 := (byt_below w5 (.cells #[.int .u8 m] 5) (Nat.le_refl _)).trans (hb7.mono (by omega))
          have hl7 : (((.slice (some ⟨w5.heap.size, 0, none⟩) 1 1 : Value), [b8 m]) :: Q).length = 1 + Q.length := by rw [List.length_cons, Nat.add_comm]
          have hbag7 : BagR w7 w7.heap.size v7 (((.slice (some ⟨w5.heap.size, 0, none⟩) 1 1 : Value), [b8 m]) :: Q) := by
            refine row_bag (base := w5.heap.size + 1) (by rw [hl7]; exact hown7) ?_
            intro p hp
            rcases List.mem_cons.1 hp with rfl | hp
            · exact (MK.out.below hb7).more (by have := hb7.size; simp at this; omega)
            · exact (((HBR.out.2 p hp).below (WR5.out.trans (hb57.mono WR5.out.size)))).more (by have := WR5.out.size; have := hb57.size; omega)
          obtain ⟨A11, c11, rfl⟩ := hbag7.form
          have hsame := same_yes _ _ _ _ P _ w7 (BAG5.out.below hb57) hbag7 (by rw [HP5.out, List.map_cons, ← HKS.out])
          rw [hl7] at hsame ⊢
          have HSAME := Lib.hid hsame
          have HB57 := Lib.hid hb57
          clear hown7 hg7 hb7 hb57 hl7 hbag7 hsame
          go_wp2_with fail
          refine HSAME.out.mono ?_
          rintro e w8 ⟨rfl, hb8⟩
          have HB8 := Lib.hid (HB57.out.trans (hb8.mono HB57.out.size))
          clear hb8
          go_wp2_with fail
          go_ret
          exact ⟨rfl, BT5.out.trans (HB8.out.mono BT5.out.size)⟩
        · go_wp2_with fail
          go_ret
          exact ⟨rfl, HB1.out.trans ((hbel.out.trans (B9.out.mono hbel.out.size)).mono HB1.out.size)⟩
        · go_wp2_with fail
          go_ret
          exact ⟨rfl, HB1.out.trans ((hbel.out.trans (B9.out.mono hbel.out.size)).mono HB1.out.size)⟩
end Go.Proofs.Ytadgaeokiolmmaa
