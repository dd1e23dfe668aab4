/-
  DERIVED. GIVEN WITH THE SEED: THE CARDS: each row of YthelmclpmalofaaDoorRows.lean that lists a variable, with what it lists TIED to the program's text (the seventh form; the later family's looks); each row that meets fmt, with fmt's text TOLD by the authors' own Lean function (tested against real Go, not proved from fmt's source: count such statements apart). THE CARD IS WHAT COUNTS. Prove the row's statement (the work); the ties are given (YthelmclpmalofaaDoorTie.lean); close each card by the builder's one call (the guide's Derived/Test/ToyasCard.lean, 'card_holds'). Laid BY PROGRAM, IN A SANDBOX (cutbox-door.mjs). By AI agents, Wed Nov 11 2026. No macro, syntax, notation, axiom, sorry.
-/
import Derived.Test.YthelmclpmalofaaDoorRows
import GoSem.ClaimSeven
namespace Go.Proofs.YthelmclpmalofaaDoor
namespace Rows

/-- THE TIED CARD OF 'strongboxlaw12.SighashLegacy'. -/
def sighashLegacyCard : Claim7 := { stood := { row := sighashLegacyRow, standIns := [], harness := (true, "4a55c2fc91e117e87cb53aaeb41562d9cf78d1362dc3bb4805effc8a06ea3a3c"), looks := false }, kinds := [], alts := [], laidByText := true, laidKinds := [.data, .data], laidTests := true, laidLooks := .later }
def SighashLegacyCardSaid : Prop := Claim7.holds Tryd.pinned (.plain (OpenSpec.ofChange sighashLegacySpec)) sighashLegacyCard

/-- THE TIED CARD OF 'strongboxlaw12.SighashWitness'. -/
def sighashWitnessCard : Claim7 := { stood := { row := sighashWitnessRow, standIns := [], harness := (true, "4a55c2fc91e117e87cb53aaeb41562d9cf78d1362dc3bb4805effc8a06ea3a3c"), looks := false }, kinds := [], alts := [], laidByText := true, laidKinds := [.data, .data], laidTests := true, laidLooks := .later }
def SighashWitnessCardSaid : Prop := Claim7.holds Tryd.pinned (.plain (OpenSpec.ofChange sighashWitnessSpec)) sighashWitnessCard

/-- THE TIED CARD OF 'strongboxlaw12.SighashFree'. -/
def sighashFreeCard : Claim7 := { stood := { row := sighashFreeRow, standIns := [], harness := (true, "4a55c2fc91e117e87cb53aaeb41562d9cf78d1362dc3bb4805effc8a06ea3a3c"), looks := false }, kinds := [], alts := [], laidByText := true, laidKinds := [.data, .data], laidTests := true, laidLooks := .later }
def SighashFreeCardSaid : Prop := Claim7.holds Tryd.pinned (.plain (OpenSpec.ofChange sighashFreeSpec)) sighashFreeCard

/-- THE TIED CARD OF 'strongboxtop.StrongboxCommits'. -/
def strongboxCommitsCard : Claim7 := { stood := { row := strongboxCommitsRow, standIns := [], harness := (true, "4a55c2fc91e117e87cb53aaeb41562d9cf78d1362dc3bb4805effc8a06ea3a3c"), looks := false }, kinds := [], alts := [], laidByText := true, laidKinds := [.data, .data], laidTests := true, laidLooks := .later }
def StrongboxCommitsCardSaid : Prop := Claim7.holds Tryd.pinned (.plain (OpenSpec.ofChange strongboxCommitsSpec)) strongboxCommitsCard

/-- THE SECOND FORM's CARD OF 'strongboxlaw12.SighashLegacy'. -/
def sighashLegacyUptoCard : Claim7 := { stood := { row := sighashLegacyUptoRow, standIns := [], harness := (true, "4a55c2fc91e117e87cb53aaeb41562d9cf78d1362dc3bb4805effc8a06ea3a3c"), looks := false }, kinds := [], alts := [], laidByText := true, laidKinds := [.data, .data], laidTests := true, laidLooks := .later }
def SighashLegacyUptoCardSaid : Prop := Claim7.holds Tryd.pinned (.plain (OpenSpec.upto sighashLegacySpec)) sighashLegacyUptoCard

/-- THE SECOND FORM's CARD OF 'strongboxlaw12.SighashWitness'. -/
def sighashWitnessUptoCard : Claim7 := { stood := { row := sighashWitnessUptoRow, standIns := [], harness := (true, "4a55c2fc91e117e87cb53aaeb41562d9cf78d1362dc3bb4805effc8a06ea3a3c"), looks := false }, kinds := [], alts := [], laidByText := true, laidKinds := [.data, .data], laidTests := true, laidLooks := .later }
def SighashWitnessUptoCardSaid : Prop := Claim7.holds Tryd.pinned (.plain (OpenSpec.upto sighashWitnessSpec)) sighashWitnessUptoCard

/-- THE SECOND FORM's CARD OF 'strongboxlaw12.SighashFree'. -/
def sighashFreeUptoCard : Claim7 := { stood := { row := sighashFreeUptoRow, standIns := [], harness := (true, "4a55c2fc91e117e87cb53aaeb41562d9cf78d1362dc3bb4805effc8a06ea3a3c"), looks := false }, kinds := [], alts := [], laidByText := true, laidKinds := [.data, .data], laidTests := true, laidLooks := .later }
def SighashFreeUptoCardSaid : Prop := Claim7.holds Tryd.pinned (.plain (OpenSpec.upto sighashFreeSpec)) sighashFreeUptoCard

/-- THE SECOND FORM's CARD OF 'strongboxtop.StrongboxCommits'. -/
def strongboxCommitsUptoCard : Claim7 := { stood := { row := strongboxCommitsUptoRow, standIns := [], harness := (true, "4a55c2fc91e117e87cb53aaeb41562d9cf78d1362dc3bb4805effc8a06ea3a3c"), looks := false }, kinds := [], alts := [], laidByText := true, laidKinds := [.data, .data], laidTests := true, laidLooks := .later }
def StrongboxCommitsUptoCardSaid : Prop := Claim7.holds Tryd.pinned (.plain (OpenSpec.upto strongboxCommitsSpec)) strongboxCommitsUptoCard
end Rows
end Go.Proofs.YthelmclpmalofaaDoor
