/-
  What the one generic reading function does, an instance and a step each: it answers as the step does, or leaves the reader where it was, with the error; behind an error it does nothing. Conditions: sizes within the reach.
-/
import Derived.Test.YtadgaeokiolmmaaCatch
namespace Go.Proofs.Ytadgaeokiolmmaa
open Go.RowKit

/-- A step answers some value; what holds of it and of the world behind it. -/
def Ans (U : Value → World → Prop) (e : Ending) (w' : World) : Prop := ∃ u, e = .returned u ∧ U u w'

/-- The reader is where it was, and has the error. -/
def Fell (w : World) (r B : Nat) (v : Value) (k : Int) (xs : List UInt8) (w' : World) : Prop := Cu w' r B v k xs ∧ Turns (fun i => i = r) w w'

theorem fell_of {w w1 w2 w3 : World} {r B : Nat} {v v1 : Value} {k c : Int} {xs ys : List UInt8} (hc : Cu w r B v k xs) (hb : Below w.heap.size w w1)
    (_h1 : Cu w2 r B v1 k ys) (ht : Turns (fun i => i = r) w1 w2) (h : Caught w2 r v c w3) : Fell w r B v c xs w3 := by
  have ht1 : Turns (fun i => i = r) w w1 := Turns.of_below hb
  have ht3 : Turns (fun i => i = r) w w3 := (ht1.trans ht (fun _ _ h => h)).trans h.2 (fun _ _ h => h)
  refine ⟨⟨h.1, hc.2.1.keep fun b o hb' => ht3.cell (p := ⟨b, o, none⟩) ?_ ?_, hc.2.2⟩, ht3⟩
  · have := hc.lt
    have := hc.2.2
    show b < _
    omega
  · have := hc.2.2
    intro e
    simp only at e
    omega


set_option maxHeartbeats 400000 in
theorem late_u8 (r B : Nat) (v fv : Value) (k : Int) (xs : List UInt8) (w : World) (hk : (k != 0) = true) (hc : Cu w r B v k xs) :
    Calls Try.prog 75 #[.pointer (some ⟨r, 0, none⟩), fv] w (Ans (fun u w' => u = (.int .u8 0) ∧ Cu w' r B v k xs ∧ Below w.heap.size w w')) := by
  have hA : ∀ o, (w.alloc o).cell? ⟨r, 1, none⟩ = some (.int .i64 k) := fun o => (hc.alloc o).cell1
  go_enter_defers Try.func75, Try.ntmps75
  go_wp2
  refine ⟨_, results_tmp rfl _ _ _, ?_⟩
  exact ⟨_, rfl, rfl, hc.alloc _, (Below.refl _ _).alloc (Nat.le_refl _) _⟩

set_option maxHeartbeats 800000 in
theorem goes_u8_u8 (r B : Nat) (v : Value) (k : Int) (xs : List UInt8) (w : World) (hk : (k != 0) = false) (hc : Cu w r B v k xs) (U : Value → World → Prop)
    (hstep : ∀ w1, Below w.heap.size w w1 → Calls Try.prog 76 #[.pointer (some ⟨r, 0, none⟩)] w1 (Ans U)) :
    Calls Try.prog 75 #[.pointer (some ⟨r, 0, none⟩), .func (.func 76) #[] #[]] w (Ans U) := by
  obtain ⟨A, c, rfl⟩ := hc.2.1.form
  have hA1 : ∀ o, (w.alloc o).cell? ⟨r, 1, none⟩ = some (.int .i64 k) := fun o => (hc.alloc o).cell1
  have hA0 : ∀ o, (w.alloc o).cell? ⟨r, 0, none⟩ = some (.slice A xs.length c) := fun o => (hc.alloc o).cell
  have hmf : ∀ (fn : Fn) (first cap : Array Value) (w : World), (Instr.makeFunc fn first cap).run Try.prog w = .ok (.func fn first cap) w := fun _ _ _ _ => rfl
  have HS := Lib.hid hstep
  clear hstep
  go_enter_defers Try.func75, Try.ntmps75
  go_wp2_with fail
  refine (HS.out _ ?_).mono ?_
  · exact ((Below.refl _ _).alloc (Nat.le_refl _) _).alloc (by simp) _
  rintro e w2 ⟨u, rfl, hP⟩
  go_wp2
  refine leaves_cons (f := 90) (args := #[.pointer (some ⟨w.heap.size + 1, 0, none⟩), .pointer (some ⟨w.heap.size, 0, none⟩)]) (by simp) (by simp [go_sem]) ?_
  refine (idle_u8 _ _ _).mono ?_
  rintro e u' w'' ⟨rfl, rfl, rfl⟩
  refine ⟨_, results_tmp rfl _ _ _, ?_⟩
  exact ⟨u, rfl, hP⟩

set_option maxHeartbeats 800000 in
theorem falls_u8_u8 (r B : Nat) (v : Value) (k c : Int) (xs : List UInt8) (w : World) (hk : (k != 0) = false) (hc : Cu w r B v k xs)
    (hstep : ∀ w1, Below w.heap.size w w1 → Calls Try.prog 76 #[.pointer (some ⟨r, 0, none⟩)] w1 (Stops w1 r B k c)) :
    Calls Try.prog 75 #[.pointer (some ⟨r, 0, none⟩), .func (.func 76) #[] #[]] w (Ans (fun u w' => u = (.int .u8 0) ∧ Fell w r B v c xs w')) := by
  obtain ⟨A, sc, rfl⟩ := hc.2.1.form
  have hA1 : ∀ o, (w.alloc o).cell? ⟨r, 1, none⟩ = some (.int .i64 k) := fun o => (hc.alloc o).cell1
  have hA0 : ∀ o, (w.alloc o).cell? ⟨r, 0, none⟩ = some (.slice A xs.length sc) := fun o => (hc.alloc o).cell
  have hmf : ∀ (fn : Fn) (first cap : Array Value) (w : World), (Instr.makeFunc fn first cap).run Try.prog w = .ok (.func fn first cap) w := fun _ _ _ _ => rfl
  have HS := Lib.hid hstep
  clear hstep
  go_enter_defers Try.func75, Try.ntmps75
  go_wp2_with fail
  refine (HS.out _ ?_).mono ?_
  · exact ((Below.refl _ _).alloc (Nat.le_refl _) _).alloc (by simp) _
  rintro e w2 ⟨rfl, v1, ys, hc1, ht1⟩
  have hlt := hc.lt
  have g1 : w2.cell? ⟨w.heap.size + 1, 0, none⟩ = some (.slice A xs.length sc) := by
    rw [ht1.cell (p := ⟨w.heap.size + 1, 0, none⟩) (by simp) (by show ¬ w.heap.size + 1 = r; omega)]
    simp [go_sem]
  have g2 : w2.cell? ⟨w.heap.size, 0, none⟩ = some (.pointer (some ⟨r, 0, none⟩)) := by
    rw [ht1.cell (p := ⟨w.heap.size, 0, none⟩) (by simp; omega) (by show ¬ w.heap.size = r; omega)]
    simp [go_sem]
  have HF : ∀ w3, Caught w2 r (.slice A xs.length sc) c w3 → Fell w r B (.slice A xs.length sc) c xs w3 := fun w3 h3 => fell_of hc (((Below.refl _ _).alloc (Nat.le_refl _) _).alloc (by simp) _) hc1 ht1 h3
  have HH := Lib.hid HF
  clear HF ht1
  unfold flt
  go_wp2
  refine leaves_cons (f := 90) (args := #[.pointer (some ⟨w.heap.size + 1, 0, none⟩), .pointer (some ⟨w.heap.size, 0, none⟩)]) (by simp) (by simp [go_sem]) ?_
  refine (catch_u8 (w.heap.size + 1) w.heap.size r c [] w2 A xs.length sc _ k g1 g2 hc1.1 (by omega) (by omega)).mono ?_
  rintro e u' w3 ⟨rfl, rfl, hcau⟩
  refine ⟨_, results_tmp rfl _ _ _, ?_⟩
  exact ⟨_, rfl, rfl, HH.out w3 hcau⟩

set_option maxHeartbeats 400000 in
theorem late_u16 (r B : Nat) (v fv : Value) (k : Int) (xs : List UInt8) (w : World) (hk : (k != 0) = true) (hc : Cu w r B v k xs) :
    Calls Try.prog 94 #[.pointer (some ⟨r, 0, none⟩), fv] w (Ans (fun u w' => u = (.int .u16 0) ∧ Cu w' r B v k xs ∧ Below w.heap.size w w')) := by
  have hA : ∀ o, (w.alloc o).cell? ⟨r, 1, none⟩ = some (.int .i64 k) := fun o => (hc.alloc o).cell1
  go_enter_defers Try.func94, Try.ntmps94
  go_wp2
  refine ⟨_, results_tmp rfl _ _ _, ?_⟩
  exact ⟨_, rfl, rfl, hc.alloc _, (Below.refl _ _).alloc (Nat.le_refl _) _⟩

set_option maxHeartbeats 800000 in
theorem goes_u16_u16 (r B : Nat) (v : Value) (k : Int) (xs : List UInt8) (w : World) (hk : (k != 0) = false) (hc : Cu w r B v k xs) (U : Value → World → Prop)
    (hstep : ∀ w1, Below w.heap.size w w1 → Calls Try.prog 95 #[.pointer (some ⟨r, 0, none⟩)] w1 (Ans U)) :
    Calls Try.prog 94 #[.pointer (some ⟨r, 0, none⟩), .func (.func 95) #[] #[]] w (Ans U) := by
  obtain ⟨A, c, rfl⟩ := hc.2.1.form
  have hA1 : ∀ o, (w.alloc o).cell? ⟨r, 1, none⟩ = some (.int .i64 k) := fun o => (hc.alloc o).cell1
  have hA0 : ∀ o, (w.alloc o).cell? ⟨r, 0, none⟩ = some (.slice A xs.length c) := fun o => (hc.alloc o).cell
  have hmf : ∀ (fn : Fn) (first cap : Array Value) (w : World), (Instr.makeFunc fn first cap).run Try.prog w = .ok (.func fn first cap) w := fun _ _ _ _ => rfl
  have HS := Lib.hid hstep
  clear hstep
  go_enter_defers Try.func94, Try.ntmps94
  go_wp2_with fail
  refine (HS.out _ ?_).mono ?_
  · exact ((Below.refl _ _).alloc (Nat.le_refl _) _).alloc (by simp) _
  rintro e w2 ⟨u, rfl, hP⟩
  go_wp2
  refine leaves_cons (f := 99) (args := #[.pointer (some ⟨w.heap.size + 1, 0, none⟩), .pointer (some ⟨w.heap.size, 0, none⟩)]) (by simp) (by simp [go_sem]) ?_
  refine (idle_u16 _ _ _).mono ?_
  rintro e u' w'' ⟨rfl, rfl, rfl⟩
  refine ⟨_, results_tmp rfl _ _ _, ?_⟩
  exact ⟨u, rfl, hP⟩

set_option maxHeartbeats 800000 in
theorem falls_u16_u16 (r B : Nat) (v : Value) (k c : Int) (xs : List UInt8) (w : World) (hk : (k != 0) = false) (hc : Cu w r B v k xs)
    (hstep : ∀ w1, Below w.heap.size w w1 → Calls Try.prog 95 #[.pointer (some ⟨r, 0, none⟩)] w1 (Stops w1 r B k c)) :
    Calls Try.prog 94 #[.pointer (some ⟨r, 0, none⟩), .func (.func 95) #[] #[]] w (Ans (fun u w' => u = (.int .u16 0) ∧ Fell w r B v c xs w')) := by
  obtain ⟨A, sc, rfl⟩ := hc.2.1.form
  have hA1 : ∀ o, (w.alloc o).cell? ⟨r, 1, none⟩ = some (.int .i64 k) := fun o => (hc.alloc o).cell1
  have hA0 : ∀ o, (w.alloc o).cell? ⟨r, 0, none⟩ = some (.slice A xs.length sc) := fun o => (hc.alloc o).cell
  have hmf : ∀ (fn : Fn) (first cap : Array Value) (w : World), (Instr.makeFunc fn first cap).run Try.prog w = .ok (.func fn first cap) w := fun _ _ _ _ => rfl
  have HS := Lib.hid hstep
  clear hstep
  go_enter_defers Try.func94, Try.ntmps94
  go_wp2_with fail
  refine (HS.out _ ?_).mono ?_
  · exact ((Below.refl _ _).alloc (Nat.le_refl _) _).alloc (by simp) _
  rintro e w2 ⟨rfl, v1, ys, hc1, ht1⟩
  have hlt := hc.lt
  have g1 : w2.cell? ⟨w.heap.size + 1, 0, none⟩ = some (.slice A xs.length sc) := by
    rw [ht1.cell (p := ⟨w.heap.size + 1, 0, none⟩) (by simp) (by show ¬ w.heap.size + 1 = r; omega)]
    simp [go_sem]
  have g2 : w2.cell? ⟨w.heap.size, 0, none⟩ = some (.pointer (some ⟨r, 0, none⟩)) := by
    rw [ht1.cell (p := ⟨w.heap.size, 0, none⟩) (by simp; omega) (by show ¬ w.heap.size = r; omega)]
    simp [go_sem]
  have HF : ∀ w3, Caught w2 r (.slice A xs.length sc) c w3 → Fell w r B (.slice A xs.length sc) c xs w3 := fun w3 h3 => fell_of hc (((Below.refl _ _).alloc (Nat.le_refl _) _).alloc (by simp) _) hc1 ht1 h3
  have HH := Lib.hid HF
  clear HF ht1
  unfold flt
  go_wp2
  refine leaves_cons (f := 99) (args := #[.pointer (some ⟨w.heap.size + 1, 0, none⟩), .pointer (some ⟨w.heap.size, 0, none⟩)]) (by simp) (by simp [go_sem]) ?_
  refine (catch_u16 (w.heap.size + 1) w.heap.size r c [] w2 A xs.length sc _ k g1 g2 hc1.1 (by omega) (by omega)).mono ?_
  rintro e u' w3 ⟨rfl, rfl, hcau⟩
  refine ⟨_, results_tmp rfl _ _ _, ?_⟩
  exact ⟨_, rfl, rfl, HH.out w3 hcau⟩

set_option maxHeartbeats 400000 in
theorem late_u32 (r B : Nat) (v fv : Value) (k : Int) (xs : List UInt8) (w : World) (hk : (k != 0) = true) (hc : Cu w r B v k xs) :
    Calls Try.prog 96 #[.pointer (some ⟨r, 0, none⟩), fv] w (Ans (fun u w' => u = (.int .u32 0) ∧ Cu w' r B v k xs ∧ Below w.heap.size w w')) := by
  have hA : ∀ o, (w.alloc o).cell? ⟨r, 1, none⟩ = some (.int .i64 k) := fun o => (hc.alloc o).cell1
  go_enter_defers Try.func96, Try.ntmps96
  go_wp2
  refine ⟨_, results_tmp rfl _ _ _, ?_⟩
  exact ⟨_, rfl, rfl, hc.alloc _, (Below.refl _ _).alloc (Nat.le_refl _) _⟩

set_option maxHeartbeats 800000 in
theorem goes_u32_u32 (r B : Nat) (v : Value) (k : Int) (xs : List UInt8) (w : World) (hk : (k != 0) = false) (hc : Cu w r B v k xs) (U : Value → World → Prop)
    (hstep : ∀ w1, Below w.heap.size w w1 → Calls Try.prog 97 #[.pointer (some ⟨r, 0, none⟩)] w1 (Ans U)) :
    Calls Try.prog 96 #[.pointer (some ⟨r, 0, none⟩), .func (.func 97) #[] #[]] w (Ans U) := by
  obtain ⟨A, c, rfl⟩ := hc.2.1.form
  have hA1 : ∀ o, (w.alloc o).cell? ⟨r, 1, none⟩ = some (.int .i64 k) := fun o => (hc.alloc o).cell1
  have hA0 : ∀ o, (w.alloc o).cell? ⟨r, 0, none⟩ = some (.slice A xs.length c) := fun o => (hc.alloc o).cell
  have hmf : ∀ (fn : Fn) (first cap : Array Value) (w : World), (Instr.makeFunc fn first cap).run Try.prog w = .ok (.func fn first cap) w := fun _ _ _ _ => rfl
  have HS := Lib.hid hstep
  clear hstep
  go_enter_defers Try.func96, Try.ntmps96
  go_wp2_with fail
  refine (HS.out _ ?_).mono ?_
  · exact ((Below.refl _ _).alloc (Nat.le_refl _) _).alloc (by simp) _
  rintro e w2 ⟨u, rfl, hP⟩
  go_wp2
  refine leaves_cons (f := 100) (args := #[.pointer (some ⟨w.heap.size + 1, 0, none⟩), .pointer (some ⟨w.heap.size, 0, none⟩)]) (by simp) (by simp [go_sem]) ?_
  refine (idle_u32 _ _ _).mono ?_
  rintro e u' w'' ⟨rfl, rfl, rfl⟩
  refine ⟨_, results_tmp rfl _ _ _, ?_⟩
  exact ⟨u, rfl, hP⟩

set_option maxHeartbeats 800000 in
theorem falls_u32_u32 (r B : Nat) (v : Value) (k c : Int) (xs : List UInt8) (w : World) (hk : (k != 0) = false) (hc : Cu w r B v k xs)
    (hstep : ∀ w1, Below w.heap.size w w1 → Calls Try.prog 97 #[.pointer (some ⟨r, 0, none⟩)] w1 (Stops w1 r B k c)) :
    Calls Try.prog 96 #[.pointer (some ⟨r, 0, none⟩), .func (.func 97) #[] #[]] w (Ans (fun u w' => u = (.int .u32 0) ∧ Fell w r B v c xs w')) := by
  obtain ⟨A, sc, rfl⟩ := hc.2.1.form
  have hA1 : ∀ o, (w.alloc o).cell? ⟨r, 1, none⟩ = some (.int .i64 k) := fun o => (hc.alloc o).cell1
  have hA0 : ∀ o, (w.alloc o).cell? ⟨r, 0, none⟩ = some (.slice A xs.length sc) := fun o => (hc.alloc o).cell
  have hmf : ∀ (fn : Fn) (first cap : Array Value) (w : World), (Instr.makeFunc fn first cap).run Try.prog w = .ok (.func fn first cap) w := fun _ _ _ _ => rfl
  have HS := Lib.hid hstep
  clear hstep
  go_enter_defers Try.func96, Try.ntmps96
  go_wp2_with fail
  refine (HS.out _ ?_).mono ?_
  · exact ((Below.refl _ _).alloc (Nat.le_refl _) _).alloc (by simp) _
  rintro e w2 ⟨rfl, v1, ys, hc1, ht1⟩
  have hlt := hc.lt
  have g1 : w2.cell? ⟨w.heap.size + 1, 0, none⟩ = some (.slice A xs.length sc) := by
    rw [ht1.cell (p := ⟨w.heap.size + 1, 0, none⟩) (by simp) (by show ¬ w.heap.size + 1 = r; omega)]
    simp [go_sem]
  have g2 : w2.cell? ⟨w.heap.size, 0, none⟩ = some (.pointer (some ⟨r, 0, none⟩)) := by
    rw [ht1.cell (p := ⟨w.heap.size, 0, none⟩) (by simp; omega) (by show ¬ w.heap.size = r; omega)]
    simp [go_sem]
  have HF : ∀ w3, Caught w2 r (.slice A xs.length sc) c w3 → Fell w r B (.slice A xs.length sc) c xs w3 := fun w3 h3 => fell_of hc (((Below.refl _ _).alloc (Nat.le_refl _) _).alloc (by simp) _) hc1 ht1 h3
  have HH := Lib.hid HF
  clear HF ht1
  unfold flt
  go_wp2
  refine leaves_cons (f := 100) (args := #[.pointer (some ⟨w.heap.size + 1, 0, none⟩), .pointer (some ⟨w.heap.size, 0, none⟩)]) (by simp) (by simp [go_sem]) ?_
  refine (catch_u32 (w.heap.size + 1) w.heap.size r c [] w2 A xs.length sc _ k g1 g2 hc1.1 (by omega) (by omega)).mono ?_
  rintro e u' w3 ⟨rfl, rfl, hcau⟩
  refine ⟨_, results_tmp rfl _ _ _, ?_⟩
  exact ⟨_, rfl, rfl, HH.out w3 hcau⟩

set_option maxHeartbeats 400000 in
theorem late_list (r B : Nat) (v fv : Value) (k : Int) (xs : List UInt8) (w : World) (hk : (k != 0) = true) (hc : Cu w r B v k xs) :
    Calls Try.prog 77 #[.pointer (some ⟨r, 0, none⟩), fv] w (Ans (fun u w' => u = (.slice none 0 0) ∧ Cu w' r B v k xs ∧ Below w.heap.size w w')) := by
  have hA : ∀ o, (w.alloc o).cell? ⟨r, 1, none⟩ = some (.int .i64 k) := fun o => (hc.alloc o).cell1
  go_enter_defers Try.func77, Try.ntmps77
  go_wp2
  refine ⟨_, results_tmp rfl _ _ _, ?_⟩
  exact ⟨_, rfl, rfl, hc.alloc _, (Below.refl _ _).alloc (Nat.le_refl _) _⟩

set_option maxHeartbeats 800000 in
theorem goes_list_raw (r B : Nat) (v q : Value) (k : Int) (xs : List UInt8) (w : World) (hk : (k != 0) = false) (hc : Cu w r B v k xs) (U : Value → World → Prop)
    (hstep : ∀ w1, Below w.heap.size w w1 → Calls Try.prog 78 #[.pointer (some ⟨r, 0, none⟩), q] w1 (Ans U)) :
    Calls Try.prog 77 #[.pointer (some ⟨r, 0, none⟩), .func (.func 78) #[] #[q]] w (Ans U) := by
  obtain ⟨A, c, rfl⟩ := hc.2.1.form
  have hA1 : ∀ o, (w.alloc o).cell? ⟨r, 1, none⟩ = some (.int .i64 k) := fun o => (hc.alloc o).cell1
  have hA0 : ∀ o, (w.alloc o).cell? ⟨r, 0, none⟩ = some (.slice A xs.length c) := fun o => (hc.alloc o).cell
  have hmf : ∀ (fn : Fn) (first cap : Array Value) (w : World), (Instr.makeFunc fn first cap).run Try.prog w = .ok (.func fn first cap) w := fun _ _ _ _ => rfl
  have HS := Lib.hid hstep
  clear hstep
  go_enter_defers Try.func77, Try.ntmps77
  go_wp2_with fail
  refine (HS.out _ ?_).mono ?_
  · exact ((Below.refl _ _).alloc (Nat.le_refl _) _).alloc (by simp) _
  rintro e w2 ⟨u, rfl, hP⟩
  go_wp2
  refine leaves_cons (f := 92) (args := #[.pointer (some ⟨w.heap.size + 1, 0, none⟩), .pointer (some ⟨w.heap.size, 0, none⟩)]) (by simp) (by simp [go_sem]) ?_
  refine (idle_list _ _ _).mono ?_
  rintro e u' w'' ⟨rfl, rfl, rfl⟩
  refine ⟨_, results_tmp rfl _ _ _, ?_⟩
  exact ⟨u, rfl, hP⟩

set_option maxHeartbeats 800000 in
theorem falls_list_raw (r B : Nat) (v q : Value) (k c : Int) (xs : List UInt8) (w : World) (hk : (k != 0) = false) (hc : Cu w r B v k xs)
    (hstep : ∀ w1, Below w.heap.size w w1 → Calls Try.prog 78 #[.pointer (some ⟨r, 0, none⟩), q] w1 (Stops w1 r B k c)) :
    Calls Try.prog 77 #[.pointer (some ⟨r, 0, none⟩), .func (.func 78) #[] #[q]] w (Ans (fun u w' => u = (.slice none 0 0) ∧ Fell w r B v c xs w')) := by
  obtain ⟨A, sc, rfl⟩ := hc.2.1.form
  have hA1 : ∀ o, (w.alloc o).cell? ⟨r, 1, none⟩ = some (.int .i64 k) := fun o => (hc.alloc o).cell1
  have hA0 : ∀ o, (w.alloc o).cell? ⟨r, 0, none⟩ = some (.slice A xs.length sc) := fun o => (hc.alloc o).cell
  have hmf : ∀ (fn : Fn) (first cap : Array Value) (w : World), (Instr.makeFunc fn first cap).run Try.prog w = .ok (.func fn first cap) w := fun _ _ _ _ => rfl
  have HS := Lib.hid hstep
  clear hstep
  go_enter_defers Try.func77, Try.ntmps77
  go_wp2_with fail
  refine (HS.out _ ?_).mono ?_
  · exact ((Below.refl _ _).alloc (Nat.le_refl _) _).alloc (by simp) _
  rintro e w2 ⟨rfl, v1, ys, hc1, ht1⟩
  have hlt := hc.lt
  have g1 : w2.cell? ⟨w.heap.size + 1, 0, none⟩ = some (.slice A xs.length sc) := by
    rw [ht1.cell (p := ⟨w.heap.size + 1, 0, none⟩) (by simp) (by show ¬ w.heap.size + 1 = r; omega)]
    simp [go_sem]
  have g2 : w2.cell? ⟨w.heap.size, 0, none⟩ = some (.pointer (some ⟨r, 0, none⟩)) := by
    rw [ht1.cell (p := ⟨w.heap.size, 0, none⟩) (by simp; omega) (by show ¬ w.heap.size = r; omega)]
    simp [go_sem]
  have HF : ∀ w3, Caught w2 r (.slice A xs.length sc) c w3 → Fell w r B (.slice A xs.length sc) c xs w3 := fun w3 h3 => fell_of hc (((Below.refl _ _).alloc (Nat.le_refl _) _).alloc (by simp) _) hc1 ht1 h3
  have HH := Lib.hid HF
  clear HF ht1
  unfold flt
  go_wp2
  refine leaves_cons (f := 92) (args := #[.pointer (some ⟨w.heap.size + 1, 0, none⟩), .pointer (some ⟨w.heap.size, 0, none⟩)]) (by simp) (by simp [go_sem]) ?_
  refine (catch_list (w.heap.size + 1) w.heap.size r c [] w2 A xs.length sc _ k g1 g2 hc1.1 (by omega) (by omega)).mono ?_
  rintro e u' w3 ⟨rfl, rfl, hcau⟩
  refine ⟨_, results_tmp rfl _ _ _, ?_⟩
  exact ⟨_, rfl, rfl, HH.out w3 hcau⟩

end Go.Proofs.Ytadgaeokiolmmaa
