/-
  script.dataSize and script.Parse. Conditions: sizes within the reach.
-/
import Derived.Test.YtadgaeokiolmmaaSnOps
import Derived.Deep.LoopGhost
namespace Go.Proofs.Ytadgaeokiolmmaa
open Go.RowKit

set_option maxHeartbeats 1600000 in
theorem dataSize_any (r B : Nat) (v : Value) (c : UInt8) (xs : List UInt8) (w : World) (hc : Cu w r B v 0 xs) :
    Calls Try.prog 45 #[.pointer (some ⟨r, 0, none⟩), .int .u8 (c.toNat : Int)] w (Did w r B (.int .i64 (sizeD c xs).1) (sizeD c xs).2.1 (sizeD c xs).2.2) := by
  have hc256 := c.toNat_lt
  have did0 : ∀ n : Int, Did w r B (.int .i64 n) 0 xs (.returned (.int .i64 n)) w := fun n => ⟨rfl, v, hc, Turns.refl _ _⟩
  by_cases h1 : c.toNat < 76
  · have hs : sizeD c xs = ((c.toNat : Int), 0, xs) := by unfold sizeD; rw [if_pos h1]
    rw [hs]
    have HD := Lib.hid did0
    clear did0 hs hc
    go_enter Try.func45, Try.ntmps45
    go_wp2_with fail
    go_ret
    exact HD.out _
  by_cases h2 : c.toNat = 76
  · have hs : sizeD c xs = numR 1 0 xs := by unfold sizeD; rw [if_neg h1, if_pos h2]
    have hbd := numR_bd 1 xs
    have HU := Lib.hid (ru8_any r B v 0 xs w hc)
    rw [hs]
    obtain ⟨⟨n, k, ys⟩, hp⟩ : ∃ p, p = numR 1 0 xs := ⟨_, rfl⟩
    rw [← hp] at HU hbd ⊢
    have e : ((c.toNat : Int) == 76) = true := by simp only [beq_iff_eq]; omega
    clear did0 hs hc hp h2
    dsimp only at HU hbd ⊢
    go_enter Try.func45, Try.ntmps45
    go_wp2_with fail
    refine HU.out.mono ?_
    rintro e w1 ⟨rfl, hd⟩
    go_wp2_with fail
    go_ret
    exact ⟨rfl, hd⟩
  by_cases h3 : c.toNat = 77
  · have hs : sizeD c xs = numR 2 0 xs := by unfold sizeD; rw [if_neg h1, if_neg h2, if_pos h3]
    have hbd := numR_bd 2 xs
    have HU := Lib.hid (ru16_any r B v 0 xs w hc)
    rw [hs]
    obtain ⟨⟨n, k, ys⟩, hp⟩ : ∃ p, p = numR 2 0 xs := ⟨_, rfl⟩
    rw [← hp] at HU hbd ⊢
    have e : ((c.toNat : Int) == 76) = false := by simp only [beq_eq_false_iff_ne, ne_eq]; omega
    have e2 : ((c.toNat : Int) == 77) = true := by simp only [beq_iff_eq]; omega
    clear did0 hs hc hp h2 h3
    dsimp only at HU hbd ⊢
    go_enter Try.func45, Try.ntmps45
    go_wp2_with fail
    refine HU.out.mono ?_
    rintro e w1 ⟨rfl, hd⟩
    go_wp2_with fail
    go_ret
    exact ⟨rfl, hd⟩
  by_cases h4 : c.toNat = 78
  · have hs : sizeD c xs = (min (numR 4 0 xs).1 2147483647, (numR 4 0 xs).2.1, (numR 4 0 xs).2.2) := by unfold sizeD; rw [if_neg h1, if_neg h2, if_neg h3, if_pos h4]
    have hbd := numR_bd 4 xs
    have HU := Lib.hid (ru32_any r B v 0 xs w hc)
    rw [hs]
    obtain ⟨⟨n, k, ys⟩, hp⟩ : ∃ p, p = numR 4 0 xs := ⟨_, rfl⟩
    rw [← hp] at HU hbd ⊢
    have e : ((c.toNat : Int) == 76) = false := by simp only [beq_eq_false_iff_ne, ne_eq]; omega
    have e2 : ((c.toNat : Int) == 77) = false := by simp only [beq_eq_false_iff_ne, ne_eq]; omega
    have e3 : ((c.toNat : Int) == 78) = true := by simp only [beq_iff_eq]; omega
    clear did0 hs hc hp h2 h3 h4
    dsimp only at HU hbd ⊢
    by_cases hn : n ≤ 2147483647
    · rw [Int.min_eq_left hn]
      go_enter Try.func45, Try.ntmps45
      go_wp2_with fail
      refine HU.out.mono ?_
      rintro e w1 ⟨rfl, hd⟩
      go_wp2_with fail
      go_ret
      exact ⟨rfl, hd⟩
    · rw [Int.min_eq_right (by omega)]
      go_enter Try.func45, Try.ntmps45
      go_wp2_with fail
      refine HU.out.mono ?_
      rintro e w1 ⟨rfl, hd⟩
      go_wp2_with fail
      go_ret
      exact ⟨rfl, hd⟩
  · have hs : sizeD c xs = (0, 0, xs) := by unfold sizeD; rw [if_neg h1, if_neg h2, if_neg h3, if_neg h4]
    have e : ((c.toNat : Int) == 76) = false := by simp only [beq_eq_false_iff_ne, ne_eq]; omega
    have e2 : ((c.toNat : Int) == 77) = false := by simp only [beq_eq_false_iff_ne, ne_eq]; omega
    have e3 : ((c.toNat : Int) == 78) = false := by simp only [beq_eq_false_iff_ne, ne_eq]; omega
    rw [hs]
    have HD := Lib.hid did0
    clear did0 hs hc h2 h3 h4
    go_enter Try.func45, Try.ntmps45
    go_wp2_with fail
    go_ret
    exact HD.out _

/-- What Parse answers: a list of operations of its own, or the error. -/
def Parsed (w : World) (xs : List UInt8) (e : Ending) (w' : World) : Prop :=
  match parseP xs with
  | none => e = .returned (.tuple #[.slice none 0 0, .int .i64 4]) ∧ Below w.heap.size w w'
  | some ops => ∃ A c L, e = .returned (.tuple #[.slice A ops.length c, .int .i64 0]) ∧ L.map Piece.pair = ops ∧ OpsAt w' w.heap.size (.slice A ops.length c) L ∧ Below w.heap.size w w'
theorem parsed_none {w w' : World} {xs : List UInt8} (h : parseP xs = none) (hb : Below w.heap.size w w') : Parsed w xs (.returned (.tuple #[.slice none 0 0, .int .i64 4])) w' := by unfold Parsed; rw [h]; exact ⟨rfl, hb⟩
theorem parsed_some {w w' : World} {xs : List UInt8} {v : Value} {L : List Piece} (h : parseP xs = some (L.map Piece.pair)) (ho : OpsAt w' w.heap.size v L) (hb : Below w.heap.size w w') : Parsed w xs (.returned (.tuple #[v, .int .i64 0])) w' := by
  unfold Parsed
  rw [h]
  obtain ⟨A, c, rfl⟩ := ho.form
  exact ⟨A, c, L, by rw [List.length_map], rfl, by rw [List.length_map]; exact ho, hb⟩

/-- What the loop keeps: the operations so far, the reader at the rest. -/
structure PWalk (w : World) (r b1 : Nat) (all : List UInt8) (v : Value) (L : List Piece) (rest : List UInt8) (wr : World) : Prop where
  ops : OpsAt wr b1 v L
  rd : ∃ rv, Cu wr r r rv 0 rest
  eq : parseP all = (parseP rest).map (L.map Piece.pair ++ ·)
  bel : Below w.heap.size w wr
  size : b1 ≤ wr.heap.size
  len : L.length + rest.length ≤ all.length

set_option maxRecDepth 100000 in
set_option maxHeartbeats 3200000 in
theorem parse_any (B : Nat) (x : Value) (xs : List UInt8) (w : World) (hx : Byt w B x xs) (hl : xs.length ≤ 60000000) :
    Calls Try.prog 12 #[x] w (Parsed w xs) := by
  have HO := Lib.hid (open_any B x xs w hx hl)
  obtain ⟨A, c, rfl⟩ := hx.form
  clear hx
  go_enter Try.func12, Try.ntmps12
  go_wp2_with fail
  refine HO.out.mono ?_
  rintro e w1 ⟨r, rv, rfl, hcu, hr, hb1⟩
  have hrl := hcu.lt
  go_wp2_with fail
  go_loopg [4] xs.length (fun k s wr => ∃ (v : Value) (L : List Piece) (rest : List UInt8), v = s ∧ rest.length ≤ k ∧ Hid (PWalk w r w1.heap.size xs v L rest wr))
  case atStart => exact ⟨_, [], xs, rfl, Nat.le_refl _, Lib.hid ⟨OpsAt.nil _ _, ⟨rv, hcu⟩, by simp, hb1, Nat.le_refl _, by simp⟩⟩
  case round =>
    obtain ⟨v, L, rest, hv, hk, hp⟩ := hrel
    subst hv
    obtain ⟨rv2, hcu2⟩ := hp.out.rd
    have HL := Lib.hid (rleft_any r r rv2 0 rest wr hcu2)
    cases rest with
    | nil =>
      clear hcu2
      go_wp2_with fail
      refine HL.out.mono ?_
      rintro e w2 ⟨rfl, rfl⟩
      go_wp2_with fail
      go_ret2
      refine parsed_some ?_ (hp.out.ops.base (Nat.le_trans hb1.size (Nat.le_refl _))) hp.out.bel
      rw [hp.out.eq, parseP_nil]
      simp
    | cons c rest =>
      have h8 := ru8_any r r rv2 0 (c :: rest) wr hcu2
      rw [numR_one] at h8
      have H8 := Lib.hid h8
      clear hcu2 h8
      go_wp2_with fail
      refine HL.out.mono ?_
      rintro e w2 ⟨rfl, rfl⟩
      go_wp2_with fail
      refine H8.out.mono ?_
      rintro e w2 ⟨rfl, rv3, hcu3, ht2⟩
      have HD := Lib.hid (dataSize_any r r rv3 c rest w2 hcu3)
      have hT2 := Lib.hid ht2
      clear hcu3 ht2 H8 HL
      obtain ⟨⟨n, k2, ys⟩, hn⟩ : ∃ p, p = sizeD c rest := ⟨_, rfl⟩
      have hopr : opR c rest = rawR n k2 ys := by unfold opR; rw [← hn]
      have hsr := sizeD_rest c rest
      have hsb := sizeD_bd c rest
      rw [← hn] at HD hsr hsb
      dsimp only at HD hsr hsb
      clear hn
      have HOP := Lib.hid hopr
      clear hopr
      go_wp2_with fail
      refine HD.out.mono ?_
      rintro e w3 ⟨rfl, rv4, hcu4, ht3⟩
      have hlen := hp.out.len
      have HR := Lib.hid (rraw_any r r rv4 k2 n ys w3 (by simp at hlen; omega) hcu4)
      have hT3 := Lib.hid ht3
      clear hcu4 ht3 HD
      have o2 := opR_two c rest
      have o3 := opR_rest c rest
      have o4 := opR_data c rest
      rw [HOP.out] at o2 o3 o4
      obtain ⟨⟨zs, k5, ws⟩, hz⟩ : ∃ p, p = rawR n k2 ys := ⟨_, rfl⟩
      rw [← hz] at HR o2 o3 o4 HOP
      dsimp only at HR o2 o3 o4
      clear hz
      go_wp2_with fail
      refine HR.out.mono ?_
      rintro e w4 ⟨u, rfl, A4, c4, rfl, hown4, rv5, hcu5, ht4⟩
      have hb1s := hp.out.size
      have T24 : Turns (fun i => i = r) wr w4 := (hT2.out.trans hT3.out (fun _ _ h => h)).trans ht4 (fun _ _ h => h)
      have s3 : wr.heap.size ≤ w3.heap.size := (hT2.out.trans hT3.out (fun _ _ h => h)).size
      have s4 := ht4.size
      have low : ∀ k, w1.heap.size ≤ k → ¬ k = r := fun k hk e => by omega
      have ops4 : OpsAt w4 w1.heap.size v L := hp.out.ops.turns_low T24 low
      have own4 : OwnB w4 w1.heap.size (.slice A4 zs.length c4) zs := own_base hown4 (by omega)
      have hn : ∀ q ∈ L, ∀ g, q.at_.ownBlock = some g → (Value.slice A4 zs.length c4).ownBlock ≠ some g := fun q hq g hg he => by
        have h1 := (World.ownsRow.lt (hp.out.ops.2.1 q hq) g hg).2
        have h2 := (World.ownsRow.lt hown4 g he).1
        omega
      obtain ⟨W5, hW5⟩ : ∃ W5, W5 = w4.alloc (.cells #[.int .u8 (c.toNat : Int), .slice A4 zs.length c4] 37) := ⟨_, rfl⟩
      have c0 : W5.cell? ⟨w4.heap.size, 0, none⟩ = some (.int .u8 (c.toNat : Int)) := by rw [hW5]; exact cell_of_row _ _ 0 _ _ _ (heap_alloc_new w4 _)
      have c1 : W5.cell? ⟨w4.heap.size, 1, none⟩ = some (.slice A4 zs.length c4) := by rw [hW5]; exact cell_of_row _ _ 1 _ _ _ (heap_alloc_new w4 _)
      have ops5 : OpsAt W5 w1.heap.size v L := by rw [hW5]; exact ops4.alloc _
      have own5 : OwnB W5 w1.heap.size (.slice A4 zs.length c4) zs := by rw [hW5]; exact World.ownsRow.alloc own4 _
      have cu5 : Cu W5 r r rv5 k5 ws := by rw [hW5]; exact hcu5.alloc _
      have s5 : W5.heap.size = w4.heap.size + 1 := by rw [hW5]; simp
      have bel5 : Below w.heap.size w W5 := by
        rw [hW5]
        have h1 : Below w.heap.size wr w4 := T24.below_of (by have := hp.out.bel.size; omega) (fun i hi e => by omega)
        exact (hp.out.bel.trans h1).alloc (by have := (hp.out.bel.trans h1).size; omega) _
      have hll : (L.length + 1) * 32 ≤ 140737488355328 := by simp at hlen; omega
      have OPS := Lib.hid ops5
      have OWN := Lib.hid own5
      have CU := Lib.hid cu5
      have BEL := Lib.hid bel5
      have HNN := Lib.hid hn
      have HSZ := Lib.hid (And.intro hb1s (And.intro s3 (And.intro s4 s5)))
      clear ops5 own5 cu5 bel5 hn ops4 own4 T24 ht4 hcu5 hown4 hb1s s3 s4 s5 hT2 hT3 low HR
      go_wp2_with (at_builtin; rw [← hW5]; refine wpList_append_op rfl (.tmp 14) (.tmp 22) rfl w1.heap.size _ L.length (cellsOf L) rfl OPS.out.1 w4.heap.size (.int .u8 (c.toNat : Int)) (.slice A4 zs.length c4) rfl c0 c1 rfl rfl hll (by have := HSZ.out; omega) ?_; intro v5 w5 hown5 hg5)
      clear c0 c1 hW5
      have hT5 : Turns (fun k => v.ownBlock = some k) W5 w5 := (Turns.refl _ W5).grown hg5 (fun k hk _ => hk)
      have cu6 : Cu w5 r r rv5 k5 ws := CU.out.turns hT5 (fun e => by have := (OPS.out.1.lt r e).1; omega) (fun i hi e => by have := (OPS.out.1.lt i e).1; omega)
      have ops6 := OPS.out.snoc (p := ⟨c, .slice A4 zs.length c4, zs⟩) OWN.out HNN.out hown5 rfl hg5
      have bel6 : Below w.heap.size w w5 := BEL.out.trans (hT5.below_of (by have := HSZ.out; have := hp.out.bel.size; omega) (fun i hi e => by have := (OPS.out.1.lt i e).1; have := hb1.size; omega))
      have hE := Lib.hid (rerr_any r r rv5 k5 ws w5 cu6)
      have CU6 := Lib.hid cu6
      have OPS6 := Lib.hid ops6
      have BEL6 := Lib.hid bel6
      have HS6 := Lib.hid hT5.size
      clear cu6 ops6 bel6 hT5 hown5 hg5 OPS OWN CU BEL HNN
      rcases o2 with rfl | rfl
      · have hq : parseP (c :: rest) = (parseP ws).map ((c, zs) :: ·) := by
          have h0 : (opR c rest).2.1 = 0 := by rw [HOP.out]
          rw [parseP_ok h0, HOP.out]
        have HQ := Lib.hid hq
        clear hq HOP
        go_wp2_with fail
        refine hE.out.mono ?_
        rintro e w6 ⟨rfl, rfl⟩
        go_wp2_with fail
        go_roundg rest.length
        case measure => simp at hk; omega
        case rel =>
          refine ⟨_, L ++ [⟨c, .slice A4 zs.length c4, zs⟩], ws, rfl, o3, Lib.hid ⟨OPS6.out, ⟨rv5, CU6.out⟩, ?_, BEL6.out, by have := HSZ.out; have := HS6.out; omega, by simp at hlen ⊢; omega⟩⟩
          rw [hp.out.eq, HQ.out, Option.map_map]
          congr 1
          funext t
          simp [Piece.pair]
      · have hq : parseP (c :: rest) = none := parseP_bad (by rw [HOP.out]; show (4 : Int) ≠ 0; decide)
        have HQ := Lib.hid hq
        clear hq HOP
        go_wp2_with fail
        refine hE.out.mono ?_
        rintro e w6 ⟨rfl, rfl⟩
        go_wp2_with fail
        refine hE.out.mono ?_
        rintro e w6 ⟨rfl, rfl⟩
        go_wp2_with fail
        go_ret2
        exact parsed_none (by rw [hp.out.eq, HQ.out]; rfl) BEL6.out
end Go.Proofs.Ytadgaeokiolmmaa
