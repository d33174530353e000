/-
  DERIVED. GIVEN WITH THE SEED: THE CARDS: each row of YtahhmgoffdggpaaGreatDoorRows.lean that lists a variable, with what it lists TIED to the program's text (the seventh form; the later family's looks); each row that meets fmt, with fmt's text TOLD by the authors' own Lean function (tested against real Go, not proved from fmt's source: count such statements apart). THE CARD IS WHAT COUNTS. Prove the row's statement (the work); the ties are given (YtahhmgoffdggpaaGreatDoorTie.lean); close each card by the builder's one call (the guide's Derived/Test/ToyasCard.lean, 'card_holds'). Laid BY PROGRAM, IN A SANDBOX (cutbox-door.mjs). By AI agents, Wed Nov 11 2026. No macro, syntax, notation, axiom, sorry.
-/
import Derived.Test.YtahhmgoffdggpaaGreatDoorRows
import GoSem.ClaimSeven
namespace Go.Proofs.YtahhmgoffdggpaaGreatDoor
namespace Rows

/-- THE TIED CARD OF 'multikernellaw09.IsaExact'. -/
def isaExactCard : Claim7 := { stood := { row := isaExactRow, standIns := [], harness := (true, "fb4f0bbbda236d0031af601f011dc9a506d6a24b03838b5adb2c644896829242"), looks := true }, kinds := [], alts := [], laidByText := true, laidKinds := [.data, .data, .data, .sentinel, .sentinel, .data], laidTests := true, laidLooks := .later }
def IsaExactCardSaid : Prop := Claim7.holds Tryz.pinned (.plain (OpenSpec.ofChange isaExactSpec)) isaExactCard

/-- THE TIED CARD OF 'multikernellaw09.IsaAssemble'. -/
def isaAssembleCard : Claim7 := { stood := { row := isaAssembleRow, standIns := [], harness := (true, "fb4f0bbbda236d0031af601f011dc9a506d6a24b03838b5adb2c644896829242"), looks := true }, kinds := [], alts := [], laidByText := true, laidKinds := [.data, .data, .data, .sentinel, .sentinel, .data], laidTests := true, laidLooks := .later }
def IsaAssembleCardSaid : Prop := Claim7.holds Tryz.pinned (.plain (OpenSpec.ofChange isaAssembleSpec)) isaAssembleCard

/-- THE SECOND FORM's CARD OF 'multikernellaw09.IsaExact'. -/
def isaExactUptoCard : Claim7 := { stood := { row := isaExactUptoRow, standIns := [], harness := (true, "fb4f0bbbda236d0031af601f011dc9a506d6a24b03838b5adb2c644896829242"), looks := true }, kinds := [], alts := [], laidByText := true, laidKinds := [.data, .data, .data, .sentinel, .sentinel, .data], laidTests := true, laidLooks := .later }
def IsaExactUptoCardSaid : Prop := Claim7.holds Tryz.pinned (.plain (OpenSpec.upto isaExactSpec)) isaExactUptoCard

/-- THE SECOND FORM's CARD OF 'multikernellaw09.IsaAssemble'. -/
def isaAssembleUptoCard : Claim7 := { stood := { row := isaAssembleUptoRow, standIns := [], harness := (true, "fb4f0bbbda236d0031af601f011dc9a506d6a24b03838b5adb2c644896829242"), looks := true }, kinds := [], alts := [], laidByText := true, laidKinds := [.data, .data, .data, .sentinel, .sentinel, .data], laidTests := true, laidLooks := .later }
def IsaAssembleUptoCardSaid : Prop := Claim7.holds Tryz.pinned (.plain (OpenSpec.upto isaAssembleSpec)) isaAssembleUptoCard
end Rows
end Go.Proofs.YtahhmgoffdggpaaGreatDoor
