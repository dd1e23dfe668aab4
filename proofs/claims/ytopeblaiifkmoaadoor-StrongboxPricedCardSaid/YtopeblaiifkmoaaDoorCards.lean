/-
  DERIVED. GIVEN WITH THE SEED: THE CARDS: each row of YtopeblaiifkmoaaDoorRows.lean that lists a variable, with what it lists TIED to the program's text (the seventh form; the later family's looks); each row that meets fmt, with fmt's text TOLD by the authors' own Lean function (tested against real Go, not proved from fmt's source: count such statements apart). THE CARD IS WHAT COUNTS. Prove the row's statement (the work); the ties are given (YtopeblaiifkmoaaDoorTie.lean); close each card by the builder's one call (the guide's Derived/Test/ToyasCard.lean, 'card_holds'). Laid BY PROGRAM, IN A SANDBOX (cutbox-door.mjs). By AI agents, Wed Nov 11 2026. No macro, syntax, notation, axiom, sorry.
-/
import Derived.Test.YtopeblaiifkmoaaDoorRows
import GoSem.ClaimSeven
namespace Go.Proofs.YtopeblaiifkmoaaDoor
namespace Rows

/-- THE TIED CARD OF 'strongboxlaw04.AmountAdds'. -/
def amountAddsCard : Claim7 := { stood := { row := amountAddsRow, standIns := [], harness := (true, "286ca84941edca42eac20414bdf2d022f004fc091c72d09e6109c8f6cbc994e2"), looks := false }, kinds := [], alts := [], laidByText := true, laidKinds := [.data, .data, .data], laidTests := true, laidLooks := .later }
def AmountAddsCardSaid : Prop := Claim7.holds Tryd.pinned (.plain (OpenSpec.ofChange amountAddsSpec)) amountAddsCard

/-- THE TIED CARD OF 'strongboxlaw04.AmountFees'. -/
def amountFeesCard : Claim7 := { stood := { row := amountFeesRow, standIns := [], harness := (true, "286ca84941edca42eac20414bdf2d022f004fc091c72d09e6109c8f6cbc994e2"), looks := false }, kinds := [], alts := [], laidByText := true, laidKinds := [.data, .data, .data], laidTests := true, laidLooks := .later }
def AmountFeesCardSaid : Prop := Claim7.holds Tryd.pinned (.plain (OpenSpec.ofChange amountFeesSpec)) amountFeesCard

/-- THE TIED CARD OF 'strongboxlaw04.AmountBack'. -/
def amountBackCard : Claim7 := { stood := { row := amountBackRow, standIns := [], harness := (true, "286ca84941edca42eac20414bdf2d022f004fc091c72d09e6109c8f6cbc994e2"), looks := false }, kinds := [], alts := [], laidByText := true, laidKinds := [.data, .data, .data], laidTests := true, laidLooks := .later }
def AmountBackCardSaid : Prop := Claim7.holds Tryd.pinned (.plain (OpenSpec.ofChange amountBackSpec)) amountBackCard

/-- THE TIED CARD OF 'strongboxlaw04.AmountTexts'. -/
def amountTextsCard : Claim7 := { stood := { row := amountTextsRow, standIns := [], harness := (true, "286ca84941edca42eac20414bdf2d022f004fc091c72d09e6109c8f6cbc994e2"), looks := false }, kinds := [], alts := [], laidByText := true, laidKinds := [.data, .data, .data], laidTests := true, laidLooks := .later }
def AmountTextsCardSaid : Prop := Claim7.holds Tryd.pinned (.plain (OpenSpec.ofChange amountTextsSpec)) amountTextsCard

/-- THE TIED CARD OF 'strongboxlaw04.AmountDust'. -/
def amountDustCard : Claim7 := { stood := { row := amountDustRow, standIns := [], harness := (true, "286ca84941edca42eac20414bdf2d022f004fc091c72d09e6109c8f6cbc994e2"), looks := false }, kinds := [], alts := [], laidByText := true, laidKinds := [.data, .data, .data], laidTests := true, laidLooks := .later }
def AmountDustCardSaid : Prop := Claim7.holds Tryd.pinned (.plain (OpenSpec.ofChange amountDustSpec)) amountDustCard

/-- THE TIED CARD OF 'strongboxtop.StrongboxPriced'. -/
def strongboxPricedCard : Claim7 := { stood := { row := strongboxPricedRow, standIns := [], harness := (true, "286ca84941edca42eac20414bdf2d022f004fc091c72d09e6109c8f6cbc994e2"), looks := false }, kinds := [], alts := [], laidByText := true, laidKinds := [.data, .data, .data], laidTests := true, laidLooks := .later }
def StrongboxPricedCardSaid : Prop := Claim7.holds Tryd.pinned (.plain (OpenSpec.ofChange strongboxPricedSpec)) strongboxPricedCard

/-- THE SECOND FORM's CARD OF 'strongboxlaw04.AmountAdds'. -/
def amountAddsUptoCard : Claim7 := { stood := { row := amountAddsUptoRow, standIns := [], harness := (true, "286ca84941edca42eac20414bdf2d022f004fc091c72d09e6109c8f6cbc994e2"), looks := false }, kinds := [], alts := [], laidByText := true, laidKinds := [.data, .data, .data], laidTests := true, laidLooks := .later }
def AmountAddsUptoCardSaid : Prop := Claim7.holds Tryd.pinned (.plain (OpenSpec.upto amountAddsSpec)) amountAddsUptoCard

/-- THE SECOND FORM's CARD OF 'strongboxlaw04.AmountFees'. -/
def amountFeesUptoCard : Claim7 := { stood := { row := amountFeesUptoRow, standIns := [], harness := (true, "286ca84941edca42eac20414bdf2d022f004fc091c72d09e6109c8f6cbc994e2"), looks := false }, kinds := [], alts := [], laidByText := true, laidKinds := [.data, .data, .data], laidTests := true, laidLooks := .later }
def AmountFeesUptoCardSaid : Prop := Claim7.holds Tryd.pinned (.plain (OpenSpec.upto amountFeesSpec)) amountFeesUptoCard

/-- THE SECOND FORM's CARD OF 'strongboxlaw04.AmountBack'. -/
def amountBackUptoCard : Claim7 := { stood := { row := amountBackUptoRow, standIns := [], harness := (true, "286ca84941edca42eac20414bdf2d022f004fc091c72d09e6109c8f6cbc994e2"), looks := false }, kinds := [], alts := [], laidByText := true, laidKinds := [.data, .data, .data], laidTests := true, laidLooks := .later }
def AmountBackUptoCardSaid : Prop := Claim7.holds Tryd.pinned (.plain (OpenSpec.upto amountBackSpec)) amountBackUptoCard

/-- THE SECOND FORM's CARD OF 'strongboxlaw04.AmountTexts'. -/
def amountTextsUptoCard : Claim7 := { stood := { row := amountTextsUptoRow, standIns := [], harness := (true, "286ca84941edca42eac20414bdf2d022f004fc091c72d09e6109c8f6cbc994e2"), looks := false }, kinds := [], alts := [], laidByText := true, laidKinds := [.data, .data, .data], laidTests := true, laidLooks := .later }
def AmountTextsUptoCardSaid : Prop := Claim7.holds Tryd.pinned (.plain (OpenSpec.upto amountTextsSpec)) amountTextsUptoCard

/-- THE SECOND FORM's CARD OF 'strongboxlaw04.AmountDust'. -/
def amountDustUptoCard : Claim7 := { stood := { row := amountDustUptoRow, standIns := [], harness := (true, "286ca84941edca42eac20414bdf2d022f004fc091c72d09e6109c8f6cbc994e2"), looks := false }, kinds := [], alts := [], laidByText := true, laidKinds := [.data, .data, .data], laidTests := true, laidLooks := .later }
def AmountDustUptoCardSaid : Prop := Claim7.holds Tryd.pinned (.plain (OpenSpec.upto amountDustSpec)) amountDustUptoCard

/-- THE SECOND FORM's CARD OF 'strongboxtop.StrongboxPriced'. -/
def strongboxPricedUptoCard : Claim7 := { stood := { row := strongboxPricedUptoRow, standIns := [], harness := (true, "286ca84941edca42eac20414bdf2d022f004fc091c72d09e6109c8f6cbc994e2"), looks := false }, kinds := [], alts := [], laidByText := true, laidKinds := [.data, .data, .data], laidTests := true, laidLooks := .later }
def StrongboxPricedUptoCardSaid : Prop := Claim7.holds Tryd.pinned (.plain (OpenSpec.upto strongboxPricedSpec)) strongboxPricedUptoCard
end Rows
end Go.Proofs.YtopeblaiifkmoaaDoor
