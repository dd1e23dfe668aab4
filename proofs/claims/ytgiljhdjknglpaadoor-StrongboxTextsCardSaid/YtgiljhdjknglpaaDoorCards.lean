/-
  DERIVED. GIVEN WITH THE SEED: THE CARDS: each row of YtgiljhdjknglpaaDoorRows.lean that lists a variable, with what it lists TIED to the program's text (the seventh form; the later family's looks); each row that meets fmt, with fmt's text TOLD by the authors' own Lean function (tested against real Go, not proved from fmt's source: count such statements apart). THE CARD IS WHAT COUNTS. Prove the row's statement (the work); the ties are given (YtgiljhdjknglpaaDoorTie.lean); close each card by the builder's one call (the guide's Derived/Test/ToyasCard.lean, 'card_holds'). Laid BY PROGRAM, IN A SANDBOX (cutbox-door.mjs). By AI agents, Wed Nov 11 2026. No macro, syntax, notation, axiom, sorry.
-/
import Derived.Test.YtgiljhdjknglpaaDoorRows
import GoSem.ClaimSeven
namespace Go.Proofs.YtgiljhdjknglpaaDoor
namespace Rows

/-- THE TIED CARD OF 'strongboxlaw03.TextReads'. -/
def textReadsCard : Claim7 := { stood := { row := textReadsRow, standIns := [], harness := (true, "75ad5fc94d2ddac324833eb2e749b6f2eb2c45450cd38665da2042acbd311b01"), looks := false }, kinds := [], alts := [], laidByText := true, laidKinds := [.data, .wider, .wider, .pinned, .pinned], laidTests := true, laidLooks := .later }
def TextReadsCardSaid : Prop := Claim7.holds Tryd.pinned (.plain (OpenSpec.ofChange textReadsSpec)) textReadsCard

/-- THE TIED CARD OF 'strongboxtop.StrongboxTexts'. -/
def strongboxTextsCard : Claim7 := { stood := { row := strongboxTextsRow, standIns := [], harness := (true, "75ad5fc94d2ddac324833eb2e749b6f2eb2c45450cd38665da2042acbd311b01"), looks := false }, kinds := [], alts := [], laidByText := true, laidKinds := [.data, .data, .data, .wider, .pinned, .pinned], laidTests := true, laidLooks := .later }
def StrongboxTextsCardSaid : Prop := Claim7.holds Tryd.pinned (.plain (OpenSpec.ofChange strongboxTextsSpec)) strongboxTextsCard

/-- THE SECOND FORM's CARD OF 'strongboxlaw03.TextReads'. -/
def textReadsUptoCard : Claim7 := { stood := { row := textReadsUptoRow, standIns := [], harness := (true, "75ad5fc94d2ddac324833eb2e749b6f2eb2c45450cd38665da2042acbd311b01"), looks := false }, kinds := [], alts := [], laidByText := true, laidKinds := [.data, .wider, .wider, .pinned, .pinned], laidTests := true, laidLooks := .later }
def TextReadsUptoCardSaid : Prop := Claim7.holds Tryd.pinned (.plain (OpenSpec.upto textReadsSpec)) textReadsUptoCard

/-- THE SECOND FORM's CARD OF 'strongboxtop.StrongboxTexts'. -/
def strongboxTextsUptoCard : Claim7 := { stood := { row := strongboxTextsUptoRow, standIns := [], harness := (true, "75ad5fc94d2ddac324833eb2e749b6f2eb2c45450cd38665da2042acbd311b01"), looks := false }, kinds := [], alts := [], laidByText := true, laidKinds := [.data, .data, .data, .wider, .pinned, .pinned], laidTests := true, laidLooks := .later }
def StrongboxTextsUptoCardSaid : Prop := Claim7.holds Tryd.pinned (.plain (OpenSpec.upto strongboxTextsSpec)) strongboxTextsUptoCard
end Rows
end Go.Proofs.YtgiljhdjknglpaaDoor
