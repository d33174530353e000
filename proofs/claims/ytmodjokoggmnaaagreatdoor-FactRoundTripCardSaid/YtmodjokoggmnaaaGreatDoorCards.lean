/-
  DERIVED. GIVEN WITH THE SEED: THE CARDS: each row of YtmodjokoggmnaaaGreatDoorRows.lean that lists a variable, with what it lists TIED to the program's text (the seventh form; the later family's looks); each row that meets fmt, with fmt's text TOLD by the authors' own Lean function (tested against real Go, not proved from fmt's source: count such statements apart). THE CARD IS WHAT COUNTS. Prove the row's statement (the work); the ties are given (YtmodjokoggmnaaaGreatDoorTie.lean); close each card by the builder's one call (the guide's Derived/Test/ToyasCard.lean, 'card_holds'). Laid BY PROGRAM, IN A SANDBOX (cutbox-door.mjs). By AI agents, Wed Nov 11 2026. No macro, syntax, notation, axiom, sorry.
-/
import Derived.Test.YtmodjokoggmnaaaGreatDoorRows
import GoSem.ClaimSeven
namespace Go.Proofs.YtmodjokoggmnaaaGreatDoor
namespace Rows

/-- THE TIED CARD OF 'multikernellaw04.FactText'. -/
def factTextCard : Claim7 := { stood := { row := factTextRow, standIns := [], harness := (true, "949bd9beb107fc037c42ad1db3f800709c9e669592734ab50cbdf58ecdcaf169"), looks := true }, kinds := [], alts := [], laidByText := true, laidKinds := [.data, .data, .data, .sentinel, .sentinel], laidTests := true, laidLooks := .later }
def FactTextCardSaid : Prop := Claim7.holds Tryz.pinned (.plain (OpenSpec.ofChange factTextSpec)) factTextCard

/-- THE TIED CARD OF 'multikernellaw04.FactRoundTrip'. -/
def factRoundTripCard : Claim7 := { stood := { row := factRoundTripRow, standIns := [], harness := (true, "949bd9beb107fc037c42ad1db3f800709c9e669592734ab50cbdf58ecdcaf169"), looks := true }, kinds := [], alts := [], laidByText := true, laidKinds := [.data, .data, .data, .sentinel, .sentinel], laidTests := true, laidLooks := .later }
def FactRoundTripCardSaid : Prop := Claim7.holds Tryz.pinned (.plain (OpenSpec.ofChange factRoundTripSpec)) factRoundTripCard

/-- THE SECOND FORM's CARD OF 'multikernellaw04.FactText'. -/
def factTextUptoCard : Claim7 := { stood := { row := factTextUptoRow, standIns := [], harness := (true, "949bd9beb107fc037c42ad1db3f800709c9e669592734ab50cbdf58ecdcaf169"), looks := true }, kinds := [], alts := [], laidByText := true, laidKinds := [.data, .data, .data, .sentinel, .sentinel], laidTests := true, laidLooks := .later }
def FactTextUptoCardSaid : Prop := Claim7.holds Tryz.pinned (.plain (OpenSpec.upto factTextSpec)) factTextUptoCard

/-- THE SECOND FORM's CARD OF 'multikernellaw04.FactRoundTrip'. -/
def factRoundTripUptoCard : Claim7 := { stood := { row := factRoundTripUptoRow, standIns := [], harness := (true, "949bd9beb107fc037c42ad1db3f800709c9e669592734ab50cbdf58ecdcaf169"), looks := true }, kinds := [], alts := [], laidByText := true, laidKinds := [.data, .data, .data, .sentinel, .sentinel], laidTests := true, laidLooks := .later }
def FactRoundTripUptoCardSaid : Prop := Claim7.holds Tryz.pinned (.plain (OpenSpec.upto factRoundTripSpec)) factRoundTripUptoCard
end Rows
end Go.Proofs.YtmodjokoggmnaaaGreatDoor
