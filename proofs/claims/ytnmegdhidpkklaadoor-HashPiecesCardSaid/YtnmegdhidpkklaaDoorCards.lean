/-
  DERIVED. GIVEN WITH THE SEED: THE CARDS: each row of YtnmegdhidpkklaaDoorRows.lean that lists a variable, with what it lists TIED to the program's text (the seventh form; the later family's looks); each row that meets fmt, with fmt's text TOLD by the authors' own Lean function (tested against real Go, not proved from fmt's source: count such statements apart). THE CARD IS WHAT COUNTS. Prove the row's statement (the work); the ties are given (YtnmegdhidpkklaaDoorTie.lean); close each card by the builder's one call (the guide's Derived/Test/ToyasCard.lean, 'card_holds'). Laid BY PROGRAM, IN A SANDBOX (cutbox-door.mjs). By AI agents, Wed Nov 11 2026. No macro, syntax, notation, axiom, sorry.
-/
import Derived.Test.YtnmegdhidpkklaaDoorRows
import GoSem.ClaimSeven
namespace Go.Proofs.YtnmegdhidpkklaaDoor
namespace Rows

/-- THE TIED CARD OF 'strongboxlaw02.HashSums'. -/
def hashSumsCard : Claim7 := { stood := { row := hashSumsRow, standIns := [], harness := (true, "a2188264689ee5f8df9ae5369b6fd2024ad7236c09a63d6cae98082c62357da2"), looks := true }, kinds := [], alts := [], laidByText := true, laidKinds := [.data, .data, .data, .data, .data, .data], laidTests := true, laidLooks := .later }
def HashSumsCardSaid : Prop := Claim7.holds Tryd.pinned (.plain (OpenSpec.ofChange hashSumsSpec)) hashSumsCard

/-- THE TIED CARD OF 'strongboxlaw02.HashBoth'. -/
def hashBothCard : Claim7 := { stood := { row := hashBothRow, standIns := [], harness := (true, "a2188264689ee5f8df9ae5369b6fd2024ad7236c09a63d6cae98082c62357da2"), looks := true }, kinds := [], alts := [], laidByText := true, laidKinds := [.data, .data, .data, .data, .data, .data], laidTests := true, laidLooks := .later }
def HashBothCardSaid : Prop := Claim7.holds Tryd.pinned (.plain (OpenSpec.ofChange hashBothSpec)) hashBothCard

/-- THE TIED CARD OF 'strongboxlaw02.HashPieces'. -/
def hashPiecesCard : Claim7 := { stood := { row := hashPiecesRow, standIns := [], harness := (true, "a2188264689ee5f8df9ae5369b6fd2024ad7236c09a63d6cae98082c62357da2"), looks := true }, kinds := [], alts := [], laidByText := true, laidKinds := [.data, .data], laidTests := true, laidLooks := .later }
def HashPiecesCardSaid : Prop := Claim7.holds Tryd.pinned (.plain (OpenSpec.ofChange hashPiecesSpec)) hashPiecesCard

/-- THE TIED CARD OF 'strongboxlaw02.HashTexts'. -/
def hashTextsCard : Claim7 := { stood := { row := hashTextsRow, standIns := [], harness := (true, "a2188264689ee5f8df9ae5369b6fd2024ad7236c09a63d6cae98082c62357da2"), looks := true }, kinds := [], alts := [], laidByText := true, laidKinds := [.data, .data], laidTests := true, laidLooks := .later }
def HashTextsCardSaid : Prop := Claim7.holds Tryd.pinned (.plain (OpenSpec.ofChange hashTextsSpec)) hashTextsCard

/-- THE TIED CARD OF 'strongboxtop.StrongboxPieces'. -/
def strongboxPiecesCard : Claim7 := { stood := { row := strongboxPiecesRow, standIns := [], harness := (true, "a2188264689ee5f8df9ae5369b6fd2024ad7236c09a63d6cae98082c62357da2"), looks := true }, kinds := [], alts := [], laidByText := true, laidKinds := [.data, .data], laidTests := true, laidLooks := .later }
def StrongboxPiecesCardSaid : Prop := Claim7.holds Tryd.pinned (.plain (OpenSpec.ofChange strongboxPiecesSpec)) strongboxPiecesCard

/-- THE SECOND FORM's CARD OF 'strongboxlaw02.HashSums'. -/
def hashSumsUptoCard : Claim7 := { stood := { row := hashSumsUptoRow, standIns := [], harness := (true, "a2188264689ee5f8df9ae5369b6fd2024ad7236c09a63d6cae98082c62357da2"), looks := true }, kinds := [], alts := [], laidByText := true, laidKinds := [.data, .data, .data, .data, .data, .data], laidTests := true, laidLooks := .later }
def HashSumsUptoCardSaid : Prop := Claim7.holds Tryd.pinned (.plain (OpenSpec.upto hashSumsSpec)) hashSumsUptoCard

/-- THE SECOND FORM's CARD OF 'strongboxlaw02.HashBoth'. -/
def hashBothUptoCard : Claim7 := { stood := { row := hashBothUptoRow, standIns := [], harness := (true, "a2188264689ee5f8df9ae5369b6fd2024ad7236c09a63d6cae98082c62357da2"), looks := true }, kinds := [], alts := [], laidByText := true, laidKinds := [.data, .data, .data, .data, .data, .data], laidTests := true, laidLooks := .later }
def HashBothUptoCardSaid : Prop := Claim7.holds Tryd.pinned (.plain (OpenSpec.upto hashBothSpec)) hashBothUptoCard

/-- THE SECOND FORM's CARD OF 'strongboxlaw02.HashPieces'. -/
def hashPiecesUptoCard : Claim7 := { stood := { row := hashPiecesUptoRow, standIns := [], harness := (true, "a2188264689ee5f8df9ae5369b6fd2024ad7236c09a63d6cae98082c62357da2"), looks := true }, kinds := [], alts := [], laidByText := true, laidKinds := [.data, .data], laidTests := true, laidLooks := .later }
def HashPiecesUptoCardSaid : Prop := Claim7.holds Tryd.pinned (.plain (OpenSpec.upto hashPiecesSpec)) hashPiecesUptoCard

/-- THE SECOND FORM's CARD OF 'strongboxlaw02.HashTexts'. -/
def hashTextsUptoCard : Claim7 := { stood := { row := hashTextsUptoRow, standIns := [], harness := (true, "a2188264689ee5f8df9ae5369b6fd2024ad7236c09a63d6cae98082c62357da2"), looks := true }, kinds := [], alts := [], laidByText := true, laidKinds := [.data, .data], laidTests := true, laidLooks := .later }
def HashTextsUptoCardSaid : Prop := Claim7.holds Tryd.pinned (.plain (OpenSpec.upto hashTextsSpec)) hashTextsUptoCard

/-- THE SECOND FORM's CARD OF 'strongboxtop.StrongboxPieces'. -/
def strongboxPiecesUptoCard : Claim7 := { stood := { row := strongboxPiecesUptoRow, standIns := [], harness := (true, "a2188264689ee5f8df9ae5369b6fd2024ad7236c09a63d6cae98082c62357da2"), looks := true }, kinds := [], alts := [], laidByText := true, laidKinds := [.data, .data], laidTests := true, laidLooks := .later }
def StrongboxPiecesUptoCardSaid : Prop := Claim7.holds Tryd.pinned (.plain (OpenSpec.upto strongboxPiecesSpec)) strongboxPiecesUptoCard
end Rows
end Go.Proofs.YtnmegdhidpkklaaDoor
