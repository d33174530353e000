/-
  DERIVED. GIVEN WITH THE SEED: THE CARDS: each row of YtogebcgkcijacaaGreatDoorRows.lean that lists a variable, with what it lists TIED to the program's text (the seventh form; the later family's looks); each row that meets fmt, with fmt's text TOLD by the authors' own Lean function (tested against real Go, not proved from fmt's source: count such statements apart). THE CARD IS WHAT COUNTS. Prove the row's statement (the work); the ties are given (YtogebcgkcijacaaGreatDoorTie.lean); close each card by the builder's one call (the guide's Derived/Test/ToyasCard.lean, 'card_holds'). Laid BY PROGRAM, IN A SANDBOX (cutbox-door.mjs). By AI agents, Wed Nov 11 2026. No macro, syntax, notation, axiom, sorry.
-/
import Derived.Test.YtogebcgkcijacaaGreatDoorRows
import GoSem.ClaimSeven
namespace Go.Proofs.YtogebcgkcijacaaGreatDoor
namespace Rows

/-- THE TIED CARD OF 'multikernellaw09.IsaExact'. -/
def isaExactCard : Claim7 := { stood := { row := isaExactRow, standIns := [], harness := (true, "6799b201a5ec0ee1e1444353492db0ee87a16cf0a1738b2e6ef351c6dcf7230e"), looks := true }, kinds := [], alts := [], laidByText := true, laidKinds := [.data, .data, .data, .sentinel, .sentinel, .data], laidTests := true, laidLooks := .later }
def IsaExactCardSaid : Prop := Claim7.holds Tryz.pinned (.plain (OpenSpec.ofChange isaExactSpec)) isaExactCard

/-- THE TIED CARD OF 'multikernellaw09.IsaAssemble'. -/
def isaAssembleCard : Claim7 := { stood := { row := isaAssembleRow, standIns := [], harness := (true, "6799b201a5ec0ee1e1444353492db0ee87a16cf0a1738b2e6ef351c6dcf7230e"), looks := true }, kinds := [], alts := [], laidByText := true, laidKinds := [.data, .data, .data, .sentinel, .sentinel, .data], laidTests := true, laidLooks := .later }
def IsaAssembleCardSaid : Prop := Claim7.holds Tryz.pinned (.plain (OpenSpec.ofChange isaAssembleSpec)) isaAssembleCard

/-- THE TIED CARD OF 'multikernellaw09.IsaRoundTrip'. -/
def isaRoundTripCard : Claim7 := { stood := { row := isaRoundTripRow, standIns := [], harness := (true, "6799b201a5ec0ee1e1444353492db0ee87a16cf0a1738b2e6ef351c6dcf7230e"), looks := true }, kinds := [], alts := [], laidByText := true, laidKinds := [.data, .data, .data, .sentinel, .sentinel, .data], laidTests := true, laidLooks := .later }
def IsaRoundTripCardSaid : Prop := Claim7.holds Tryz.pinned (.plain (OpenSpec.ofChange isaRoundTripSpec)) isaRoundTripCard

/-- THE TIED CARD OF 'multikernellaw09.IsaLabels'. -/
def isaLabelsCard : Claim7 := { stood := { row := isaLabelsRow, standIns := [], harness := (true, "6799b201a5ec0ee1e1444353492db0ee87a16cf0a1738b2e6ef351c6dcf7230e"), looks := true }, kinds := [], alts := [], laidByText := true, laidKinds := [.data, .data, .data, .sentinel, .sentinel, .data], laidTests := true, laidLooks := .later }
def IsaLabelsCardSaid : Prop := Claim7.holds Tryz.pinned (.plain (OpenSpec.ofChange isaLabelsSpec)) isaLabelsCard

/-- THE TIED CARD OF 'multikernellaw09.IsaConcat'. -/
def isaConcatCard : Claim7 := { stood := { row := isaConcatRow, standIns := [], harness := (true, "6799b201a5ec0ee1e1444353492db0ee87a16cf0a1738b2e6ef351c6dcf7230e"), looks := true }, kinds := [], alts := [], laidByText := true, laidKinds := [.data, .data, .data, .sentinel, .sentinel, .data], laidTests := true, laidLooks := .later }
def IsaConcatCardSaid : Prop := Claim7.holds Tryz.pinned (.plain (OpenSpec.ofChange isaConcatSpec)) isaConcatCard

/-- THE SECOND FORM's CARD OF 'multikernellaw09.IsaExact'. -/
def isaExactUptoCard : Claim7 := { stood := { row := isaExactUptoRow, standIns := [], harness := (true, "6799b201a5ec0ee1e1444353492db0ee87a16cf0a1738b2e6ef351c6dcf7230e"), looks := true }, kinds := [], alts := [], laidByText := true, laidKinds := [.data, .data, .data, .sentinel, .sentinel, .data], laidTests := true, laidLooks := .later }
def IsaExactUptoCardSaid : Prop := Claim7.holds Tryz.pinned (.plain (OpenSpec.upto isaExactSpec)) isaExactUptoCard

/-- THE SECOND FORM's CARD OF 'multikernellaw09.IsaAssemble'. -/
def isaAssembleUptoCard : Claim7 := { stood := { row := isaAssembleUptoRow, standIns := [], harness := (true, "6799b201a5ec0ee1e1444353492db0ee87a16cf0a1738b2e6ef351c6dcf7230e"), looks := true }, kinds := [], alts := [], laidByText := true, laidKinds := [.data, .data, .data, .sentinel, .sentinel, .data], laidTests := true, laidLooks := .later }
def IsaAssembleUptoCardSaid : Prop := Claim7.holds Tryz.pinned (.plain (OpenSpec.upto isaAssembleSpec)) isaAssembleUptoCard

/-- THE SECOND FORM's CARD OF 'multikernellaw09.IsaRoundTrip'. -/
def isaRoundTripUptoCard : Claim7 := { stood := { row := isaRoundTripUptoRow, standIns := [], harness := (true, "6799b201a5ec0ee1e1444353492db0ee87a16cf0a1738b2e6ef351c6dcf7230e"), looks := true }, kinds := [], alts := [], laidByText := true, laidKinds := [.data, .data, .data, .sentinel, .sentinel, .data], laidTests := true, laidLooks := .later }
def IsaRoundTripUptoCardSaid : Prop := Claim7.holds Tryz.pinned (.plain (OpenSpec.upto isaRoundTripSpec)) isaRoundTripUptoCard

/-- THE SECOND FORM's CARD OF 'multikernellaw09.IsaLabels'. -/
def isaLabelsUptoCard : Claim7 := { stood := { row := isaLabelsUptoRow, standIns := [], harness := (true, "6799b201a5ec0ee1e1444353492db0ee87a16cf0a1738b2e6ef351c6dcf7230e"), looks := true }, kinds := [], alts := [], laidByText := true, laidKinds := [.data, .data, .data, .sentinel, .sentinel, .data], laidTests := true, laidLooks := .later }
def IsaLabelsUptoCardSaid : Prop := Claim7.holds Tryz.pinned (.plain (OpenSpec.upto isaLabelsSpec)) isaLabelsUptoCard

/-- THE SECOND FORM's CARD OF 'multikernellaw09.IsaConcat'. -/
def isaConcatUptoCard : Claim7 := { stood := { row := isaConcatUptoRow, standIns := [], harness := (true, "6799b201a5ec0ee1e1444353492db0ee87a16cf0a1738b2e6ef351c6dcf7230e"), looks := true }, kinds := [], alts := [], laidByText := true, laidKinds := [.data, .data, .data, .sentinel, .sentinel, .data], laidTests := true, laidLooks := .later }
def IsaConcatUptoCardSaid : Prop := Claim7.holds Tryz.pinned (.plain (OpenSpec.upto isaConcatSpec)) isaConcatUptoCard
end Rows
end Go.Proofs.YtogebcgkcijacaaGreatDoor
