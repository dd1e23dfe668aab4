/-
  No cell of these rows narrows 'for every input' (looked for: loops, veiled, ifaces, maps, wideKeys, modest, calm, conditions, laid).
  DERIVED. THE GIVEN ROWS OF THIS SEAT. 4 by the template 'for every input the law returns true; each argument reads behind the call as it read before'; 0 by the template 'total and deterministic' (their statements: YtammeedmccblcaaTotals.lean).
  GIVEN WITH THE SEED: the statements are not yours to turn. If you find one false, say at which input.
  Laid BY PROGRAM, IN A SANDBOX (cutbox-rows.mjs): the forced cells as the released guide's own fill.sh prints them over the translation 86857ccd53fe0766… (all of the seat's roots in one cut). By AI agents, Wed Nov 11 2026. No macro, syntax, notation, axiom, sorry.
-/
import Derived.Test.YtammeedmccblcaaChecked
import GoSem.Claim
import GoSem.ClaimJoined
import GoSem.ClaimMapViews
import Derived.JoinedTies
import Derived.KernelRfl
namespace Go.Proofs.Ytammeedmccblcaa
/- THE CELL 'sum', in the pinned program and in every row, IS THE sha256 OF THE DUMP (.gsa) THAT YtammeedmccblcaaProg.lean LOADS. Nothing in Lean hashes anything: it is a label: what it is worth is what the hold of that sum in a sandbox is worth. -/
noncomputable def Try.pinned : Pinned := { name := "ytammeedmccblcaa", sum := "86857ccd53fe07666cd38572db621d66cc617c55e0bcf34e4a68e870b1554797", checked := Try.checked }
namespace Rows
def none {H : Type} : Left H := { results := [], args := [] }

/-- 'strongboxlaw23.ChooseLargest': WHATEVER THE INPUT: true; the input reads as it did. -/
def chooseLargestSpec : ChangeSpec := { name := "chooseLargest", fn := fun _ => fun
  | [d1, d2] => { results := [.lit (.bool true)], args := [d1, d2] }
  | _ => none }
def chooseLargestRow : OpenClaim := { program := "ytammeedmccblcaa", sum := "86857ccd53fe07666cd38572db621d66cc617c55e0bcf34e4a68e870b1554797", func := "strongbox/strongboxlaw23.ChooseLargest", spec := "chooseLargest", unfollowed := true, recurses := true, apart := false }
def ChooseLargestSaid : Prop := chooseLargestRow.holds Try.pinned (OpenSpec.ofChange chooseLargestSpec)

/-- ITS FALSE NEIGHBOUR: 'it returns false'. Refute it at one input. -/
def chooseLargestWrong : ChangeSpec := { name := "chooseLargest", fn := fun _ => fun
  | [d1, d2] => { results := [.lit (.bool false)], args := [d1, d2] }
  | _ => none }
def ChooseLargestWrongFalsely : Prop := chooseLargestRow.holds Try.pinned (OpenSpec.ofChange chooseLargestWrong)

/-- 'strongboxlaw23.ChooseBranch': WHATEVER THE INPUT: true; the input reads as it did. -/
def chooseBranchSpec : ChangeSpec := { name := "chooseBranch", fn := fun _ => fun
  | [d1, d2] => { results := [.lit (.bool true)], args := [d1, d2] }
  | _ => none }
def chooseBranchRow : OpenClaim := { program := "ytammeedmccblcaa", sum := "86857ccd53fe07666cd38572db621d66cc617c55e0bcf34e4a68e870b1554797", func := "strongbox/strongboxlaw23.ChooseBranch", spec := "chooseBranch", unfollowed := true, recurses := true, apart := false }
def ChooseBranchSaid : Prop := chooseBranchRow.holds Try.pinned (OpenSpec.ofChange chooseBranchSpec)

/-- ITS FALSE NEIGHBOUR: 'it returns false'. Refute it at one input. -/
def chooseBranchWrong : ChangeSpec := { name := "chooseBranch", fn := fun _ => fun
  | [d1, d2] => { results := [.lit (.bool false)], args := [d1, d2] }
  | _ => none }
def ChooseBranchWrongFalsely : Prop := chooseBranchRow.holds Try.pinned (OpenSpec.ofChange chooseBranchWrong)

/-- 'strongboxlaw23.ChooseThrow': WHATEVER THE INPUT: true; the input reads as it did. -/
def chooseThrowSpec : ChangeSpec := { name := "chooseThrow", fn := fun _ => fun
  | [d1, d2] => { results := [.lit (.bool true)], args := [d1, d2] }
  | _ => none }
def chooseThrowRow : OpenClaim := { program := "ytammeedmccblcaa", sum := "86857ccd53fe07666cd38572db621d66cc617c55e0bcf34e4a68e870b1554797", func := "strongbox/strongboxlaw23.ChooseThrow", spec := "chooseThrow", unfollowed := true, recurses := true, apart := false }
def ChooseThrowSaid : Prop := chooseThrowRow.holds Try.pinned (OpenSpec.ofChange chooseThrowSpec)

/-- ITS FALSE NEIGHBOUR: 'it returns false'. Refute it at one input. -/
def chooseThrowWrong : ChangeSpec := { name := "chooseThrow", fn := fun _ => fun
  | [d1, d2] => { results := [.lit (.bool false)], args := [d1, d2] }
  | _ => none }
def ChooseThrowWrongFalsely : Prop := chooseThrowRow.holds Try.pinned (OpenSpec.ofChange chooseThrowWrong)

/-- 'strongboxlaw23.ChooseEnough': WHATEVER THE INPUT: true; the input reads as it did. -/
def chooseEnoughSpec : ChangeSpec := { name := "chooseEnough", fn := fun _ => fun
  | [d1, d2] => { results := [.lit (.bool true)], args := [d1, d2] }
  | _ => none }
def chooseEnoughRow : OpenClaim := { program := "ytammeedmccblcaa", sum := "86857ccd53fe07666cd38572db621d66cc617c55e0bcf34e4a68e870b1554797", func := "strongbox/strongboxlaw23.ChooseEnough", spec := "chooseEnough", unfollowed := true, recurses := true, apart := false }
def ChooseEnoughSaid : Prop := chooseEnoughRow.holds Try.pinned (OpenSpec.ofChange chooseEnoughSpec)

/-- ITS FALSE NEIGHBOUR: 'it returns false'. Refute it at one input. -/
def chooseEnoughWrong : ChangeSpec := { name := "chooseEnough", fn := fun _ => fun
  | [d1, d2] => { results := [.lit (.bool false)], args := [d1, d2] }
  | _ => none }
def ChooseEnoughWrongFalsely : Prop := chooseEnoughRow.holds Try.pinned (OpenSpec.ofChange chooseEnoughWrong)

/- THE SECOND FORM. 'bulk': how many values and letters a reading holds, each counted each time it is reached (what is shared counts as often as it is met; a slice's spare places count too). A statement '..UptoSaid' is the law's where the arguments, and the package variables that the reading takes, are together of bulk at most 1048576: NARROWER than '..Said'. Prove '..Said' where nothing that the law and all that it calls make is longer than what came in: it says more and counts as full. Else prove '..UptoSaid'. A law counts once. -/
mutual
def uptoBulk {H : Type} : DataW H → Nat
  | .lit (.string bytes) => bytes.length + 1
  | .lit _ => 1
  | .nil => 1
  | .ptr d => uptoBulk d + 1
  | .slice elems spare => uptoBulkAll elems + uptoBulkAll spare + 1
  | .agg parts => uptoBulkAll parts + 1
  | .iface _ d => uptoBulk d + 1
  | .map entries => uptoBulkEntries entries + 1
  | .held _ => 1
def uptoBulkAll {H : Type} : List (DataW H) → Nat
  | [] => 0
  | d :: r => uptoBulk d + uptoBulkAll r
def uptoBulkEntries {H : Type} : List (Lit × DataW H) → Nat
  | [] => 0
  | x :: r => uptoBulkEntry x + uptoBulkEntries r
def uptoBulkEntry {H : Type} : Lit × DataW H → Nat
  | (.string bytes, d) => bytes.length + uptoBulk d + 1
  | (_, d) => uptoBulk d + 1
 end
def uptoSmall : (H : Type) → List (DataW H) → Bool := fun _ ds => decide (uptoBulkAll ds ≤ 1048576)
def OpenSpec.upto (s : _root_.Go.ChangeSpec) : _root_.Go.OpenSpec := { _root_.Go.OpenSpec.ofChange s with cond := some uptoSmall }

/-- 'strongboxlaw23.ChooseLargest', WHERE WHAT IT READS IS OF BULK AT MOST 1048576: true; the input reads as it did. -/
def chooseLargestUptoRow : OpenClaim := { program := "ytammeedmccblcaa", sum := "86857ccd53fe07666cd38572db621d66cc617c55e0bcf34e4a68e870b1554797", func := "strongbox/strongboxlaw23.ChooseLargest", spec := "chooseLargest", unfollowed := true, recurses := true, apart := false, narrowed := true }
def ChooseLargestUptoSaid : Prop := chooseLargestUptoRow.holds Try.pinned (OpenSpec.upto chooseLargestSpec)

/-- 'strongboxlaw23.ChooseBranch', WHERE WHAT IT READS IS OF BULK AT MOST 1048576: true; the input reads as it did. -/
def chooseBranchUptoRow : OpenClaim := { program := "ytammeedmccblcaa", sum := "86857ccd53fe07666cd38572db621d66cc617c55e0bcf34e4a68e870b1554797", func := "strongbox/strongboxlaw23.ChooseBranch", spec := "chooseBranch", unfollowed := true, recurses := true, apart := false, narrowed := true }
def ChooseBranchUptoSaid : Prop := chooseBranchUptoRow.holds Try.pinned (OpenSpec.upto chooseBranchSpec)

/-- 'strongboxlaw23.ChooseThrow', WHERE WHAT IT READS IS OF BULK AT MOST 1048576: true; the input reads as it did. -/
def chooseThrowUptoRow : OpenClaim := { program := "ytammeedmccblcaa", sum := "86857ccd53fe07666cd38572db621d66cc617c55e0bcf34e4a68e870b1554797", func := "strongbox/strongboxlaw23.ChooseThrow", spec := "chooseThrow", unfollowed := true, recurses := true, apart := false, narrowed := true }
def ChooseThrowUptoSaid : Prop := chooseThrowUptoRow.holds Try.pinned (OpenSpec.upto chooseThrowSpec)

/-- 'strongboxlaw23.ChooseEnough', WHERE WHAT IT READS IS OF BULK AT MOST 1048576: true; the input reads as it did. -/
def chooseEnoughUptoRow : OpenClaim := { program := "ytammeedmccblcaa", sum := "86857ccd53fe07666cd38572db621d66cc617c55e0bcf34e4a68e870b1554797", func := "strongbox/strongboxlaw23.ChooseEnough", spec := "chooseEnough", unfollowed := true, recurses := true, apart := false, narrowed := true }
def ChooseEnoughUptoSaid : Prop := chooseEnoughUptoRow.holds Try.pinned (OpenSpec.upto chooseEnoughSpec)

end Rows
end Go.Proofs.Ytammeedmccblcaa
