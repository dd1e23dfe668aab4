/-
  DERIVED. GIVEN WITH THE SEED: THE CARDS: each row of YtginbfeimiihlaaDoorRows.lean that lists a variable, with what it lists TIED to the program's text (the seventh form; the later family's looks); each row that meets fmt, with fmt's text TOLD by the authors' own Lean function (tested against real Go, not proved from fmt's source: count such statements apart). THE CARD IS WHAT COUNTS. Prove the row's statement (the work); the ties are given (YtginbfeimiihlaaDoorTie.lean); close each card by the builder's one call (the guide's Derived/Test/ToyasCard.lean, 'card_holds'). Laid BY PROGRAM, IN A SANDBOX (cutbox-door.mjs). By AI agents, Wed Nov 11 2026. No macro, syntax, notation, axiom, sorry.
-/
import Derived.Test.YtginbfeimiihlaaDoorRows
import GoSem.ClaimSeven
namespace Go.Proofs.YtginbfeimiihlaaDoor
namespace Rows

/-- THE TIED CARD OF 'strongboxlaw03.TextHex'. -/
def textHexCard : Claim7 := { stood := { row := textHexRow, standIns := [], harness := (true, "233cc4caeebf2fcdf4b4c1eaa2e75c430c1783198473e372bd6c30d808609c28"), looks := false }, kinds := [], alts := [], laidByText := true, laidKinds := [.wider], laidTests := true, laidLooks := .later }
def TextHexCardSaid : Prop := Claim7.holds Tryd.pinned (.plain (OpenSpec.ofChange textHexSpec)) textHexCard

/-- THE TIED CARD OF 'strongboxlaw03.TextGroups'. -/
def textGroupsCard : Claim7 := { stood := { row := textGroupsRow, standIns := [], harness := (true, "233cc4caeebf2fcdf4b4c1eaa2e75c430c1783198473e372bd6c30d808609c28"), looks := false }, kinds := [], alts := [], laidByText := true, laidKinds := [.wider], laidTests := true, laidLooks := .later }
def TextGroupsCardSaid : Prop := Claim7.holds Tryd.pinned (.plain (OpenSpec.ofChange textGroupsSpec)) textGroupsCard

/-- THE TIED CARD OF 'strongboxlaw03.TextChecksums'. -/
def textChecksumsCard : Claim7 := { stood := { row := textChecksumsRow, standIns := [], harness := (true, "233cc4caeebf2fcdf4b4c1eaa2e75c430c1783198473e372bd6c30d808609c28"), looks := false }, kinds := [], alts := [], laidByText := true, laidKinds := [.wider], laidTests := true, laidLooks := .later }
def TextChecksumsCardSaid : Prop := Claim7.holds Tryd.pinned (.plain (OpenSpec.ofChange textChecksumsSpec)) textChecksumsCard

/-- THE SECOND FORM's CARD OF 'strongboxlaw03.TextHex'. -/
def textHexUptoCard : Claim7 := { stood := { row := textHexUptoRow, standIns := [], harness := (true, "233cc4caeebf2fcdf4b4c1eaa2e75c430c1783198473e372bd6c30d808609c28"), looks := false }, kinds := [], alts := [], laidByText := true, laidKinds := [.wider], laidTests := true, laidLooks := .later }
def TextHexUptoCardSaid : Prop := Claim7.holds Tryd.pinned (.plain (OpenSpec.upto textHexSpec)) textHexUptoCard

/-- THE SECOND FORM's CARD OF 'strongboxlaw03.TextGroups'. -/
def textGroupsUptoCard : Claim7 := { stood := { row := textGroupsUptoRow, standIns := [], harness := (true, "233cc4caeebf2fcdf4b4c1eaa2e75c430c1783198473e372bd6c30d808609c28"), looks := false }, kinds := [], alts := [], laidByText := true, laidKinds := [.wider], laidTests := true, laidLooks := .later }
def TextGroupsUptoCardSaid : Prop := Claim7.holds Tryd.pinned (.plain (OpenSpec.upto textGroupsSpec)) textGroupsUptoCard

/-- THE SECOND FORM's CARD OF 'strongboxlaw03.TextChecksums'. -/
def textChecksumsUptoCard : Claim7 := { stood := { row := textChecksumsUptoRow, standIns := [], harness := (true, "233cc4caeebf2fcdf4b4c1eaa2e75c430c1783198473e372bd6c30d808609c28"), looks := false }, kinds := [], alts := [], laidByText := true, laidKinds := [.wider], laidTests := true, laidLooks := .later }
def TextChecksumsUptoCardSaid : Prop := Claim7.holds Tryd.pinned (.plain (OpenSpec.upto textChecksumsSpec)) textChecksumsUptoCard
end Rows
end Go.Proofs.YtginbfeimiihlaaDoor
