/-
  DERIVED. GIVEN WITH THE SEED: THE CARDS: each row of YtjdicifickjggaaDoorRows.lean that lists a variable, with what it lists TIED to the program's text (the seventh form; the later family's looks); each row that meets fmt, with fmt's text TOLD by the authors' own Lean function (tested against real Go, not proved from fmt's source: count such statements apart). THE CARD IS WHAT COUNTS. Prove the row's statement (the work); the ties are given (YtjdicifickjggaaDoorTie.lean); close each card by the builder's one call (the guide's Derived/Test/ToyasCard.lean, 'card_holds'). Laid BY PROGRAM, IN A SANDBOX (cutbox-door.mjs). By AI agents, Wed Nov 11 2026. No macro, syntax, notation, axiom, sorry.
-/
import Derived.Test.YtjdicifickjggaaDoorRows
import GoSem.ClaimSeven
namespace Go.Proofs.YtjdicifickjggaaDoor
namespace Rows

/-- THE TIED CARD OF 'strongboxtop.StrongboxPieces'. -/
def strongboxPiecesCard : Claim7 := { stood := { row := strongboxPiecesRow, standIns := [], harness := (true, "879f44df5831811feaaf675b26fe3e336e41423d52fabee362a8823310f5d9e5"), looks := true }, kinds := [], alts := [], laidByText := true, laidKinds := [.data, .data], laidTests := true, laidLooks := .later }
def StrongboxPiecesCardSaid : Prop := Claim7.holds Tryd.pinned (.plain (OpenSpec.ofChange strongboxPiecesSpec)) strongboxPiecesCard

/-- THE SECOND FORM's CARD OF 'strongboxtop.StrongboxPieces'. -/
def strongboxPiecesUptoCard : Claim7 := { stood := { row := strongboxPiecesUptoRow, standIns := [], harness := (true, "879f44df5831811feaaf675b26fe3e336e41423d52fabee362a8823310f5d9e5"), looks := true }, kinds := [], alts := [], laidByText := true, laidKinds := [.data, .data], laidTests := true, laidLooks := .later }
def StrongboxPiecesUptoCardSaid : Prop := Claim7.holds Tryd.pinned (.plain (OpenSpec.upto strongboxPiecesSpec)) strongboxPiecesUptoCard
end Rows
end Go.Proofs.YtjdicifickjggaaDoor
