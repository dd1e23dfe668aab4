/-
  DERIVED. GIVEN WITH THE SEED: THE CARDS: each row of YtpcopimbnbmkmaaDoorRows.lean that lists a variable, with what it lists TIED to the program's text (the seventh form; the later family's looks); each row that meets fmt, with fmt's text TOLD by the authors' own Lean function (tested against real Go, not proved from fmt's source: count such statements apart). THE CARD IS WHAT COUNTS. Prove the row's statement (the work); the ties are given (YtpcopimbnbmkmaaDoorTie.lean); close each card by the builder's one call (the guide's Derived/Test/ToyasCard.lean, 'card_holds'). Laid BY PROGRAM, IN A SANDBOX (cutbox-door.mjs). By AI agents, Wed Nov 11 2026. No macro, syntax, notation, axiom, sorry.
-/
import Derived.Test.YtpcopimbnbmkmaaDoorRows
import GoSem.ClaimSeven
namespace Go.Proofs.YtpcopimbnbmkmaaDoor
namespace Rows

/-- THE TIED CARD OF 'strongboxlaw02.HashSums'. -/
def hashSumsCard : Claim7 := { stood := { row := hashSumsRow, standIns := [], harness := (true, "7085e16816a3962e12b812fdfc8ee004212e8695dd3574e99376614e79b0115d"), looks := false }, kinds := [], alts := [], laidByText := true, laidKinds := [.data, .data, .data, .data, .data, .data], laidTests := true, laidLooks := .later }
def HashSumsCardSaid : Prop := Claim7.holds Tryd.pinned (.plain (OpenSpec.ofChange hashSumsSpec)) hashSumsCard

/-- THE TIED CARD OF 'strongboxlaw02.HashBoth'. -/
def hashBothCard : Claim7 := { stood := { row := hashBothRow, standIns := [], harness := (true, "7085e16816a3962e12b812fdfc8ee004212e8695dd3574e99376614e79b0115d"), looks := false }, kinds := [], alts := [], laidByText := true, laidKinds := [.data, .data, .data, .data, .data, .data], laidTests := true, laidLooks := .later }
def HashBothCardSaid : Prop := Claim7.holds Tryd.pinned (.plain (OpenSpec.ofChange hashBothSpec)) hashBothCard

/-- THE SECOND FORM's CARD OF 'strongboxlaw02.HashSums'. -/
def hashSumsUptoCard : Claim7 := { stood := { row := hashSumsUptoRow, standIns := [], harness := (true, "7085e16816a3962e12b812fdfc8ee004212e8695dd3574e99376614e79b0115d"), looks := false }, kinds := [], alts := [], laidByText := true, laidKinds := [.data, .data, .data, .data, .data, .data], laidTests := true, laidLooks := .later }
def HashSumsUptoCardSaid : Prop := Claim7.holds Tryd.pinned (.plain (OpenSpec.upto hashSumsSpec)) hashSumsUptoCard

/-- THE SECOND FORM's CARD OF 'strongboxlaw02.HashBoth'. -/
def hashBothUptoCard : Claim7 := { stood := { row := hashBothUptoRow, standIns := [], harness := (true, "7085e16816a3962e12b812fdfc8ee004212e8695dd3574e99376614e79b0115d"), looks := false }, kinds := [], alts := [], laidByText := true, laidKinds := [.data, .data, .data, .data, .data, .data], laidTests := true, laidLooks := .later }
def HashBothUptoCardSaid : Prop := Claim7.holds Tryd.pinned (.plain (OpenSpec.upto hashBothSpec)) hashBothUptoCard
end Rows
end Go.Proofs.YtpcopimbnbmkmaaDoor
