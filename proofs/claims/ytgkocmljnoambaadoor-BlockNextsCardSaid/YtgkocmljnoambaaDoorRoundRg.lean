/-
  A region that draws its order and holds plain operations alone (no call, no defer), within a round of a range over a function: walked as outside a fence. Conditions: none (over any program).
-/
import Derived.RangeFuncWrites
import Derived.Deep.RegionHeld
import Derived.OrdersIn
import Derived.KernelRfl
namespace Go.Proofs.YtgkocmljnoambaaDoor
open Go.RowKit

/-- Operations that give a value, or nothing, and are about no function. -/
def plainOp (o : Oper) : Bool := match o.op with
  | .move _ | .assign _ | .load _ _ | .store _ _ _ | .binOp _ _ _ _ _ | .unOp _ _ _ | .convert _ _ _ | .indexAddr _ _ _ => true
  | _ => false

theorem plain_sem {P : Program} {s : Sem Value} {w : World} : ∃ r : Result Value, (do pure (Next.value (← s)) : Sem Next).run P w = r.andThen (fun v w' => .ok (.value v) w') :=
  ⟨s.run P w, by simp only [Sem.run_bind, Sem.run_pure]⟩
theorem plain_upon {F : Fence} {n : Nat} {P : Program} {o : Oper} {a : Act} {K K' : Act → World → Prop} {Q : Exit → Act → World → Prop} (hK : ∀ a w, K a w → K' a w) (r : Result Value)
    (h : o.upon P a K Q (r.andThen (fun v w' => .ok (.value v) w'))) : o.uponIn F n P a K' Q (r.andThen (fun v w' => .ok (.value v) w')) := by
  cases r with
  | ok v w' => exact hK _ _ h
  | halt x w' => cases x <;> first | exact h | exact h.elim
theorem plain_upon' {F : Fence} {n : Nat} {P : Program} {o : Oper} {a : Act} {K K' : Act → World → Prop} {Q : Exit → Act → World → Prop} (hK : ∀ a w, K a w → K' a w) (r : Result Unit)
    (h : o.upon P a K Q (r.andThen (fun _ w' => .ok .skip w'))) : o.uponIn F n P a K' Q (r.andThen (fun _ w' => .ok .skip w')) := by
  cases r with
  | ok v w' => exact hK _ _ h
  | halt x w' => cases x <;> first | exact h | exact h.elim
theorem plain_in {F : Fence} {n : Nat} {P : Program} {o : Oper} {a : Act} {w : World} {K K' : Act → World → Prop} {Q : Exit → Act → World → Prop} (hp : plainOp o = true) (hK : ∀ a w, K a w → K' a w)
    (h : o.wp P a w K Q) : o.wpIn F n P a w K' Q := by
  have hab : o.about P w a.eval = none := by
    unfold Oper.about
    unfold plainOp at hp
    split
    · rename_i c hc; rw [hc] at hp; cases hp
    · rfl
  have hse : o.semAt F.round a.eval = execOp a.eval o := by
    unfold Oper.semAt
    unfold plainOp at hp
    split
    · rename_i l c hc; rw [hc] at hp; cases hp
    · rfl
  unfold Oper.wp at h
  refine ⟨(fun f hf => by rw [hab] at hf; cases hf), ?_⟩
  rw [hse]
  unfold plainOp at hp
  unfold execOp at h ⊢
  cases hop : o.op <;> rw [hop] at hp h <;> first
    | exact absurd hp Bool.false_ne_true
    | skip
  all_goals simp only [Sem.run_bind, Sem.run_pure] at h ⊢
  all_goals first
    | exact plain_upon hK _ h
    | exact plain_upon' hK _ h
    | exact hK _ _ h
theorem wpOps_in {F : Fence} {n : Nat} {P : Program} {ops : Array Oper} {Q : Exit → Act → World → Prop} (hp : ∀ (i : Nat) (o : Oper), ops[i]? = some o → plainOp o = true) (hQ : ¬ LetsOut Q) :
    ∀ (l : List Nat) (a : Act) (w : World), wpOps P ops Q l a w → wpOpsIn F n P ops Q l a w
  | [], _, _, h => h
  | i :: rest, a, w, h => by
    unfold wpOps at h
    unfold wpOpsIn
    cases ho : ops[i]? with
    | none => rw [ho] at h; exact wpOps_in hp hQ rest a w h
    | some o =>
      rw [ho] at h
      dsimp only at h ⊢
      by_cases hw : Region.wanted o (yielded ops a.tmps) = true
      · rw [if_pos hw] at h ⊢
        rcases h with h | h
        · exact plain_in (hp i o ho) (fun a w => wpOps_in hp hQ rest a w) h
        · exact absurd h.2 hQ
      · rw [if_neg hw] at h ⊢
        refine ⟨fun f hf => ?_, wpOps_in hp hQ rest _ w h⟩
        have hpo := hp i o ho
        unfold Oper.about at hf
        unfold plainOp at hpo
        split at hf
        · rename_i c hc; rw [hc] at hpo; cases hpo
        · cases hf
theorem plain_all {ops : Array Oper} (h : ops.toList.all plainOp = true) : ∀ (i : Nat) (o : Oper), ops[i]? = some o → plainOp o = true := fun i o ho => by
  rw [← Array.getElem?_toList] at ho
  exact List.all_eq_true.1 h o (List.mem_of_getElem? ho)
/-- The beginning, within a round. -/
theorem wpIn_region_held {F : Fence} {n : Nat} {P : Program} {ops : Array Oper} {Q : Exit → Act → World → Prop} {S : World → Prop} {id : Nat} {a : Act} {w : World} (hm : P.follows .mixedOrders = true)
    (hp : ops.toList.all plainOp = true) (hQ : ¬ LetsOut Q) (hS : S w.drew) (h : S w.drew → wpAnyH P .any ops Q S ops.size (Array.replicate ops.size false) a w.drew) : (Code.region id ops true).wpIn F n P Q a w :=
  wpIn_region_draw fun t => by
    simp only [Region.schedule, hm, Bool.true_or, if_true]
    exact wpOps_in (plain_all hp) hQ _ a _ (wpAny_sound ops.size t _ a _ (wpAny_of_held _ _ _ _ (h hS)))
end Go.Proofs.YtgkocmljnoambaaDoor
