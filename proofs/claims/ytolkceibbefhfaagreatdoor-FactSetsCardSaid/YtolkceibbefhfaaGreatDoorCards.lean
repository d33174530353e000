/-
  DERIVED. GIVEN WITH THE SEED: THE CARDS: each row of YtolkceibbefhfaaGreatDoorRows.lean that lists a variable, with what it lists TIED to the program's text (the seventh form; the later family's looks); each row that meets fmt, with fmt's text TOLD by the authors' own Lean function (tested against real Go, not proved from fmt's source: count such statements apart). THE CARD IS WHAT COUNTS. Prove the row's statement (the work); the ties are given (YtolkceibbefhfaaGreatDoorTie.lean); close each card by the builder's one call (the guide's Derived/Test/ToyasCard.lean, 'card_holds'). Laid BY PROGRAM, IN A SANDBOX (cutbox-door.mjs). By AI agents, Wed Nov 11 2026. No macro, syntax, notation, axiom, sorry.
-/
import Derived.Test.YtolkceibbefhfaaGreatDoorRows
import GoSem.ClaimSeven
namespace Go.Proofs.YtolkceibbefhfaaGreatDoor
namespace Rows

/-- THE TIED CARD OF 'multikernellaw04.FactSets'. -/
def factSetsCard : Claim7 := { stood := { row := factSetsRow, standIns := [], harness := (true, "d055be8db9cf43319b613908f1b0ef276444323a94de270ea465eb0539275dbf"), looks := true }, kinds := [], alts := [], laidByText := true, laidKinds := [.data, .data, .data, .sentinel, .sentinel], laidTests := true, laidLooks := .later }
def FactSetsCardSaid : Prop := Claim7.holds Tryz.pinned (.plain (OpenSpec.ofChange factSetsSpec)) factSetsCard

/-- THE TIED CARD OF 'multikernellaw04.FactOrder'. -/
def factOrderCard : Claim7 := { stood := { row := factOrderRow, standIns := [], harness := (true, "d055be8db9cf43319b613908f1b0ef276444323a94de270ea465eb0539275dbf"), looks := true }, kinds := [], alts := [], laidByText := true, laidKinds := [.data, .data, .data, .sentinel, .sentinel], laidTests := true, laidLooks := .later }
def FactOrderCardSaid : Prop := Claim7.holds Tryz.pinned (.plain (OpenSpec.ofChange factOrderSpec)) factOrderCard

/-- THE TIED CARD OF 'multikernellaw04.FactLaws'. -/
def factLawsCard : Claim7 := { stood := { row := factLawsRow, standIns := [], harness := (true, "d055be8db9cf43319b613908f1b0ef276444323a94de270ea465eb0539275dbf"), looks := true }, kinds := [], alts := [], laidByText := true, laidKinds := [.data, .data, .data, .sentinel, .sentinel], laidTests := true, laidLooks := .later }
def FactLawsCardSaid : Prop := Claim7.holds Tryz.pinned (.plain (OpenSpec.ofChange factLawsSpec)) factLawsCard

/-- THE SECOND FORM's CARD OF 'multikernellaw04.FactSets'. -/
def factSetsUptoCard : Claim7 := { stood := { row := factSetsUptoRow, standIns := [], harness := (true, "d055be8db9cf43319b613908f1b0ef276444323a94de270ea465eb0539275dbf"), looks := true }, kinds := [], alts := [], laidByText := true, laidKinds := [.data, .data, .data, .sentinel, .sentinel], laidTests := true, laidLooks := .later }
def FactSetsUptoCardSaid : Prop := Claim7.holds Tryz.pinned (.plain (OpenSpec.upto factSetsSpec)) factSetsUptoCard

/-- THE SECOND FORM's CARD OF 'multikernellaw04.FactOrder'. -/
def factOrderUptoCard : Claim7 := { stood := { row := factOrderUptoRow, standIns := [], harness := (true, "d055be8db9cf43319b613908f1b0ef276444323a94de270ea465eb0539275dbf"), looks := true }, kinds := [], alts := [], laidByText := true, laidKinds := [.data, .data, .data, .sentinel, .sentinel], laidTests := true, laidLooks := .later }
def FactOrderUptoCardSaid : Prop := Claim7.holds Tryz.pinned (.plain (OpenSpec.upto factOrderSpec)) factOrderUptoCard

/-- THE SECOND FORM's CARD OF 'multikernellaw04.FactLaws'. -/
def factLawsUptoCard : Claim7 := { stood := { row := factLawsUptoRow, standIns := [], harness := (true, "d055be8db9cf43319b613908f1b0ef276444323a94de270ea465eb0539275dbf"), looks := true }, kinds := [], alts := [], laidByText := true, laidKinds := [.data, .data, .data, .sentinel, .sentinel], laidTests := true, laidLooks := .later }
def FactLawsUptoCardSaid : Prop := Claim7.holds Tryz.pinned (.plain (OpenSpec.upto factLawsSpec)) factLawsUptoCard
end Rows
end Go.Proofs.YtolkceibbefhfaaGreatDoor
