/-
  DERIVED. GIVEN WITH THE SEED: THE CARDS: each row of YtoedieknjbojdaaDoorRows.lean that lists a variable, with what it lists TIED to the program's text (the seventh form; the later family's looks); each row that meets fmt, with fmt's text TOLD by the authors' own Lean function (tested against real Go, not proved from fmt's source: count such statements apart). THE CARD IS WHAT COUNTS. Prove the row's statement (the work); the ties are given (YtoedieknjbojdaaDoorTie.lean); close each card by the builder's one call (the guide's Derived/Test/ToyasCard.lean, 'card_holds'). Laid BY PROGRAM, IN A SANDBOX (cutbox-door.mjs). By AI agents, Wed Nov 11 2026. No macro, syntax, notation, axiom, sorry.
-/
import Derived.Test.YtoedieknjbojdaaDoorRows
import GoSem.ClaimSeven
namespace Go.Proofs.YtoedieknjbojdaaDoor
namespace Rows

/-- THE TIED CARD OF 'multikernellaw02.LexExact'. -/
def lexExactCard : Claim7 := { stood := { row := lexExactRow, standIns := [], harness := (true, "9fb08bcae91868fa195e29fb7a19a277f139fe10a6e96362147678180ca2a88d"), looks := true }, kinds := [], alts := [], laidByText := true, laidKinds := [.data, .data, .data, .sentinel, .sentinel], laidTests := true, laidLooks := .later }
def LexExactCardSaid : Prop := Claim7.holds Tryd.pinned (.plain (OpenSpec.ofChange lexExactSpec)) lexExactCard

/-- THE TIED CARD OF 'multikernellaw02.LexFormat'. -/
def lexFormatCard : Claim7 := { stood := { row := lexFormatRow, standIns := [], harness := (true, "9fb08bcae91868fa195e29fb7a19a277f139fe10a6e96362147678180ca2a88d"), looks := true }, kinds := [], alts := [], laidByText := true, laidKinds := [.data, .data, .data, .sentinel, .sentinel], laidTests := true, laidLooks := .later }
def LexFormatCardSaid : Prop := Claim7.holds Tryd.pinned (.plain (OpenSpec.ofChange lexFormatSpec)) lexFormatCard

/-- THE TIED CARD OF 'multikernellaw02.LexRoundTrip'. -/
def lexRoundTripCard : Claim7 := { stood := { row := lexRoundTripRow, standIns := [], harness := (true, "9fb08bcae91868fa195e29fb7a19a277f139fe10a6e96362147678180ca2a88d"), looks := true }, kinds := [], alts := [], laidByText := true, laidKinds := [.data, .data, .data, .sentinel, .sentinel], laidTests := true, laidLooks := .later }
def LexRoundTripCardSaid : Prop := Claim7.holds Tryd.pinned (.plain (OpenSpec.ofChange lexRoundTripSpec)) lexRoundTripCard

/-- THE TIED CARD OF 'multikernellaw02.LexSpacing'. -/
def lexSpacingCard : Claim7 := { stood := { row := lexSpacingRow, standIns := [], harness := (true, "9fb08bcae91868fa195e29fb7a19a277f139fe10a6e96362147678180ca2a88d"), looks := true }, kinds := [], alts := [], laidByText := true, laidKinds := [.data, .data, .data, .sentinel, .sentinel], laidTests := true, laidLooks := .later }
def LexSpacingCardSaid : Prop := Claim7.holds Tryd.pinned (.plain (OpenSpec.ofChange lexSpacingSpec)) lexSpacingCard

/-- THE TIED CARD OF 'multikernellaw02.LexPositions'. -/
def lexPositionsCard : Claim7 := { stood := { row := lexPositionsRow, standIns := [], harness := (true, "9fb08bcae91868fa195e29fb7a19a277f139fe10a6e96362147678180ca2a88d"), looks := true }, kinds := [], alts := [], laidByText := true, laidKinds := [.data, .data, .data, .sentinel, .sentinel], laidTests := true, laidLooks := .later }
def LexPositionsCardSaid : Prop := Claim7.holds Tryd.pinned (.plain (OpenSpec.ofChange lexPositionsSpec)) lexPositionsCard

/-- THE TIED CARD OF 'multikernellaw02.LexConcat'. -/
def lexConcatCard : Claim7 := { stood := { row := lexConcatRow, standIns := [], harness := (true, "9fb08bcae91868fa195e29fb7a19a277f139fe10a6e96362147678180ca2a88d"), looks := true }, kinds := [], alts := [], laidByText := true, laidKinds := [.data, .data, .data, .sentinel, .sentinel], laidTests := true, laidLooks := .later }
def LexConcatCardSaid : Prop := Claim7.holds Tryd.pinned (.plain (OpenSpec.ofChange lexConcatSpec)) lexConcatCard

/-- THE TIED CARD OF 'multikernellaw02.LexPrefix'. -/
def lexPrefixCard : Claim7 := { stood := { row := lexPrefixRow, standIns := [], harness := (true, "9fb08bcae91868fa195e29fb7a19a277f139fe10a6e96362147678180ca2a88d"), looks := true }, kinds := [], alts := [], laidByText := true, laidKinds := [.data, .data, .data, .sentinel, .sentinel], laidTests := true, laidLooks := .later }
def LexPrefixCardSaid : Prop := Claim7.holds Tryd.pinned (.plain (OpenSpec.ofChange lexPrefixSpec)) lexPrefixCard

/-- THE TIED CARD OF 'multikernellaw02.LexNumbers'. -/
def lexNumbersCard : Claim7 := { stood := { row := lexNumbersRow, standIns := [], harness := (true, "9fb08bcae91868fa195e29fb7a19a277f139fe10a6e96362147678180ca2a88d"), looks := true }, kinds := [], alts := [], laidByText := true, laidKinds := [.data, .data, .data, .sentinel, .sentinel], laidTests := true, laidLooks := .later }
def LexNumbersCardSaid : Prop := Claim7.holds Tryd.pinned (.plain (OpenSpec.ofChange lexNumbersSpec)) lexNumbersCard

/-- THE SECOND FORM's CARD OF 'multikernellaw02.LexExact'. -/
def lexExactUptoCard : Claim7 := { stood := { row := lexExactUptoRow, standIns := [], harness := (true, "9fb08bcae91868fa195e29fb7a19a277f139fe10a6e96362147678180ca2a88d"), looks := true }, kinds := [], alts := [], laidByText := true, laidKinds := [.data, .data, .data, .sentinel, .sentinel], laidTests := true, laidLooks := .later }
def LexExactUptoCardSaid : Prop := Claim7.holds Tryd.pinned (.plain (OpenSpec.upto lexExactSpec)) lexExactUptoCard

/-- THE SECOND FORM's CARD OF 'multikernellaw02.LexFormat'. -/
def lexFormatUptoCard : Claim7 := { stood := { row := lexFormatUptoRow, standIns := [], harness := (true, "9fb08bcae91868fa195e29fb7a19a277f139fe10a6e96362147678180ca2a88d"), looks := true }, kinds := [], alts := [], laidByText := true, laidKinds := [.data, .data, .data, .sentinel, .sentinel], laidTests := true, laidLooks := .later }
def LexFormatUptoCardSaid : Prop := Claim7.holds Tryd.pinned (.plain (OpenSpec.upto lexFormatSpec)) lexFormatUptoCard

/-- THE SECOND FORM's CARD OF 'multikernellaw02.LexRoundTrip'. -/
def lexRoundTripUptoCard : Claim7 := { stood := { row := lexRoundTripUptoRow, standIns := [], harness := (true, "9fb08bcae91868fa195e29fb7a19a277f139fe10a6e96362147678180ca2a88d"), looks := true }, kinds := [], alts := [], laidByText := true, laidKinds := [.data, .data, .data, .sentinel, .sentinel], laidTests := true, laidLooks := .later }
def LexRoundTripUptoCardSaid : Prop := Claim7.holds Tryd.pinned (.plain (OpenSpec.upto lexRoundTripSpec)) lexRoundTripUptoCard

/-- THE SECOND FORM's CARD OF 'multikernellaw02.LexSpacing'. -/
def lexSpacingUptoCard : Claim7 := { stood := { row := lexSpacingUptoRow, standIns := [], harness := (true, "9fb08bcae91868fa195e29fb7a19a277f139fe10a6e96362147678180ca2a88d"), looks := true }, kinds := [], alts := [], laidByText := true, laidKinds := [.data, .data, .data, .sentinel, .sentinel], laidTests := true, laidLooks := .later }
def LexSpacingUptoCardSaid : Prop := Claim7.holds Tryd.pinned (.plain (OpenSpec.upto lexSpacingSpec)) lexSpacingUptoCard

/-- THE SECOND FORM's CARD OF 'multikernellaw02.LexPositions'. -/
def lexPositionsUptoCard : Claim7 := { stood := { row := lexPositionsUptoRow, standIns := [], harness := (true, "9fb08bcae91868fa195e29fb7a19a277f139fe10a6e96362147678180ca2a88d"), looks := true }, kinds := [], alts := [], laidByText := true, laidKinds := [.data, .data, .data, .sentinel, .sentinel], laidTests := true, laidLooks := .later }
def LexPositionsUptoCardSaid : Prop := Claim7.holds Tryd.pinned (.plain (OpenSpec.upto lexPositionsSpec)) lexPositionsUptoCard

/-- THE SECOND FORM's CARD OF 'multikernellaw02.LexConcat'. -/
def lexConcatUptoCard : Claim7 := { stood := { row := lexConcatUptoRow, standIns := [], harness := (true, "9fb08bcae91868fa195e29fb7a19a277f139fe10a6e96362147678180ca2a88d"), looks := true }, kinds := [], alts := [], laidByText := true, laidKinds := [.data, .data, .data, .sentinel, .sentinel], laidTests := true, laidLooks := .later }
def LexConcatUptoCardSaid : Prop := Claim7.holds Tryd.pinned (.plain (OpenSpec.upto lexConcatSpec)) lexConcatUptoCard

/-- THE SECOND FORM's CARD OF 'multikernellaw02.LexPrefix'. -/
def lexPrefixUptoCard : Claim7 := { stood := { row := lexPrefixUptoRow, standIns := [], harness := (true, "9fb08bcae91868fa195e29fb7a19a277f139fe10a6e96362147678180ca2a88d"), looks := true }, kinds := [], alts := [], laidByText := true, laidKinds := [.data, .data, .data, .sentinel, .sentinel], laidTests := true, laidLooks := .later }
def LexPrefixUptoCardSaid : Prop := Claim7.holds Tryd.pinned (.plain (OpenSpec.upto lexPrefixSpec)) lexPrefixUptoCard

/-- THE SECOND FORM's CARD OF 'multikernellaw02.LexNumbers'. -/
def lexNumbersUptoCard : Claim7 := { stood := { row := lexNumbersUptoRow, standIns := [], harness := (true, "9fb08bcae91868fa195e29fb7a19a277f139fe10a6e96362147678180ca2a88d"), looks := true }, kinds := [], alts := [], laidByText := true, laidKinds := [.data, .data, .data, .sentinel, .sentinel], laidTests := true, laidLooks := .later }
def LexNumbersUptoCardSaid : Prop := Claim7.holds Tryd.pinned (.plain (OpenSpec.upto lexNumbersSpec)) lexNumbersUptoCard
end Rows
end Go.Proofs.YtoedieknjbojdaaDoor
