/-
  DERIVED. GIVEN WITH THE SEED: THE CARDS: each row of YthpcfidcpaikgaaDoorRows.lean that lists a variable, with what it lists TIED to the program's text (the seventh form; the later family's looks); each row that meets fmt, with fmt's text TOLD by the authors' own Lean function (tested against real Go, not proved from fmt's source: count such statements apart). THE CARD IS WHAT COUNTS. Prove the row's statement (the work); the ties are given (YthpcfidcpaikgaaDoorTie.lean); close each card by the builder's one call (the guide's Derived/Test/ToyasCard.lean, 'card_holds'). Laid BY PROGRAM, IN A SANDBOX (cutbox-door.mjs). By AI agents, Wed Nov 11 2026. No macro, syntax, notation, axiom, sorry.
-/
import Derived.Test.YthpcfidcpaikgaaDoorRows
import GoSem.ClaimSeven
namespace Go.Proofs.YthpcfidcpaikgaaDoor
namespace Rows

/-- THE TIED CARD OF 'multikernellaw02.LexExact'. -/
def lexExactCard : Claim7 := { stood := { row := lexExactRow, standIns := [], harness := (true, "e8d706a67e0a13c4c098d8a44d47d51e99fa5cda38655f365ff2d83945327e69"), looks := true }, kinds := [], alts := [], laidByText := true, laidKinds := [.data, .data, .data, .sentinel, .sentinel], laidTests := true, laidLooks := .later }
def LexExactCardSaid : Prop := Claim7.holds Tryd.pinned (.plain (OpenSpec.ofChange lexExactSpec)) lexExactCard

/-- THE TIED CARD OF 'multikernellaw02.LexFormat'. -/
def lexFormatCard : Claim7 := { stood := { row := lexFormatRow, standIns := [], harness := (true, "e8d706a67e0a13c4c098d8a44d47d51e99fa5cda38655f365ff2d83945327e69"), looks := true }, kinds := [], alts := [], laidByText := true, laidKinds := [.data, .data, .data, .sentinel, .sentinel], laidTests := true, laidLooks := .later }
def LexFormatCardSaid : Prop := Claim7.holds Tryd.pinned (.plain (OpenSpec.ofChange lexFormatSpec)) lexFormatCard

/-- THE TIED CARD OF 'multikernellaw02.LexRoundTrip'. -/
def lexRoundTripCard : Claim7 := { stood := { row := lexRoundTripRow, standIns := [], harness := (true, "e8d706a67e0a13c4c098d8a44d47d51e99fa5cda38655f365ff2d83945327e69"), looks := true }, kinds := [], alts := [], laidByText := true, laidKinds := [.data, .data, .data, .sentinel, .sentinel], laidTests := true, laidLooks := .later }
def LexRoundTripCardSaid : Prop := Claim7.holds Tryd.pinned (.plain (OpenSpec.ofChange lexRoundTripSpec)) lexRoundTripCard

/-- THE TIED CARD OF 'multikernellaw02.LexSpacing'. -/
def lexSpacingCard : Claim7 := { stood := { row := lexSpacingRow, standIns := [], harness := (true, "e8d706a67e0a13c4c098d8a44d47d51e99fa5cda38655f365ff2d83945327e69"), looks := true }, kinds := [], alts := [], laidByText := true, laidKinds := [.data, .data, .data, .sentinel, .sentinel], laidTests := true, laidLooks := .later }
def LexSpacingCardSaid : Prop := Claim7.holds Tryd.pinned (.plain (OpenSpec.ofChange lexSpacingSpec)) lexSpacingCard

/-- THE SECOND FORM's CARD OF 'multikernellaw02.LexExact'. -/
def lexExactUptoCard : Claim7 := { stood := { row := lexExactUptoRow, standIns := [], harness := (true, "e8d706a67e0a13c4c098d8a44d47d51e99fa5cda38655f365ff2d83945327e69"), looks := true }, kinds := [], alts := [], laidByText := true, laidKinds := [.data, .data, .data, .sentinel, .sentinel], laidTests := true, laidLooks := .later }
def LexExactUptoCardSaid : Prop := Claim7.holds Tryd.pinned (.plain (OpenSpec.upto lexExactSpec)) lexExactUptoCard

/-- THE SECOND FORM's CARD OF 'multikernellaw02.LexFormat'. -/
def lexFormatUptoCard : Claim7 := { stood := { row := lexFormatUptoRow, standIns := [], harness := (true, "e8d706a67e0a13c4c098d8a44d47d51e99fa5cda38655f365ff2d83945327e69"), looks := true }, kinds := [], alts := [], laidByText := true, laidKinds := [.data, .data, .data, .sentinel, .sentinel], laidTests := true, laidLooks := .later }
def LexFormatUptoCardSaid : Prop := Claim7.holds Tryd.pinned (.plain (OpenSpec.upto lexFormatSpec)) lexFormatUptoCard

/-- THE SECOND FORM's CARD OF 'multikernellaw02.LexRoundTrip'. -/
def lexRoundTripUptoCard : Claim7 := { stood := { row := lexRoundTripUptoRow, standIns := [], harness := (true, "e8d706a67e0a13c4c098d8a44d47d51e99fa5cda38655f365ff2d83945327e69"), looks := true }, kinds := [], alts := [], laidByText := true, laidKinds := [.data, .data, .data, .sentinel, .sentinel], laidTests := true, laidLooks := .later }
def LexRoundTripUptoCardSaid : Prop := Claim7.holds Tryd.pinned (.plain (OpenSpec.upto lexRoundTripSpec)) lexRoundTripUptoCard

/-- THE SECOND FORM's CARD OF 'multikernellaw02.LexSpacing'. -/
def lexSpacingUptoCard : Claim7 := { stood := { row := lexSpacingUptoRow, standIns := [], harness := (true, "e8d706a67e0a13c4c098d8a44d47d51e99fa5cda38655f365ff2d83945327e69"), looks := true }, kinds := [], alts := [], laidByText := true, laidKinds := [.data, .data, .data, .sentinel, .sentinel], laidTests := true, laidLooks := .later }
def LexSpacingUptoCardSaid : Prop := Claim7.holds Tryd.pinned (.plain (OpenSpec.upto lexSpacingSpec)) lexSpacingUptoCard
end Rows
end Go.Proofs.YthpcfidcpaikgaaDoor
