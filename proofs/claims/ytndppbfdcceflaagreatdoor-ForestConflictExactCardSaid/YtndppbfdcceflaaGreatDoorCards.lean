/-
  DERIVED. GIVEN WITH THE SEED: THE CARDS: each row of YtndppbfdcceflaaGreatDoorRows.lean that lists a variable, with what it lists TIED to the program's text (the seventh form; the later family's looks); each row that meets fmt, with fmt's text TOLD by the authors' own Lean function (tested against real Go, not proved from fmt's source: count such statements apart). THE CARD IS WHAT COUNTS. Prove the row's statement (the work); the ties are given (YtndppbfdcceflaaGreatDoorTie.lean); close each card by the builder's one call (the guide's Derived/Test/ToyasCard.lean, 'card_holds'). Laid BY PROGRAM, IN A SANDBOX (cutbox-door.mjs). By AI agents, Wed Nov 11 2026. No macro, syntax, notation, axiom, sorry.
-/
import Derived.Test.YtndppbfdcceflaaGreatDoorRows
import GoSem.ClaimSeven
namespace Go.Proofs.YtndppbfdcceflaaGreatDoor
namespace Rows

/-- THE TIED CARD OF 'multikernellaw13.ForestValidExact'. -/
def forestValidExactCard : Claim7 := { stood := { row := forestValidExactRow, standIns := [], harness := (true, "bf67d4889713ecb2d6b470e2eb654e12bbfd9308713aec427d249bb43584bacb"), looks := false }, kinds := [], alts := [], laidByText := true, laidKinds := [.data, .data], laidTests := true, laidLooks := .later }
def ForestValidExactCardSaid : Prop := Claim7.holds Tryz.pinned (.plain (OpenSpec.ofChange forestValidExactSpec)) forestValidExactCard

/-- THE TIED CARD OF 'multikernellaw13.ForestQueriesExact'. -/
def forestQueriesExactCard : Claim7 := { stood := { row := forestQueriesExactRow, standIns := [], harness := (true, "bf67d4889713ecb2d6b470e2eb654e12bbfd9308713aec427d249bb43584bacb"), looks := false }, kinds := [], alts := [], laidByText := true, laidKinds := [.data, .data], laidTests := true, laidLooks := .later }
def ForestQueriesExactCardSaid : Prop := Claim7.holds Tryz.pinned (.plain (OpenSpec.ofChange forestQueriesExactSpec)) forestQueriesExactCard

/-- THE TIED CARD OF 'multikernellaw13.ForestChangesExact'. -/
def forestChangesExactCard : Claim7 := { stood := { row := forestChangesExactRow, standIns := [], harness := (true, "bf67d4889713ecb2d6b470e2eb654e12bbfd9308713aec427d249bb43584bacb"), looks := false }, kinds := [], alts := [], laidByText := true, laidKinds := [.data, .data], laidTests := true, laidLooks := .later }
def ForestChangesExactCardSaid : Prop := Claim7.holds Tryz.pinned (.plain (OpenSpec.ofChange forestChangesExactSpec)) forestChangesExactCard

/-- THE TIED CARD OF 'multikernellaw13.ForestConflictExact'. -/
def forestConflictExactCard : Claim7 := { stood := { row := forestConflictExactRow, standIns := [], harness := (true, "bf67d4889713ecb2d6b470e2eb654e12bbfd9308713aec427d249bb43584bacb"), looks := false }, kinds := [], alts := [], laidByText := true, laidKinds := [.data, .data], laidTests := true, laidLooks := .later }
def ForestConflictExactCardSaid : Prop := Claim7.holds Tryz.pinned (.plain (OpenSpec.ofChange forestConflictExactSpec)) forestConflictExactCard

/-- THE TIED CARD OF 'multikernellaw13.ForestStaysValid'. -/
def forestStaysValidCard : Claim7 := { stood := { row := forestStaysValidRow, standIns := [], harness := (true, "bf67d4889713ecb2d6b470e2eb654e12bbfd9308713aec427d249bb43584bacb"), looks := false }, kinds := [], alts := [], laidByText := true, laidKinds := [.data, .data], laidTests := true, laidLooks := .later }
def ForestStaysValidCardSaid : Prop := Claim7.holds Tryz.pinned (.plain (OpenSpec.ofChange forestStaysValidSpec)) forestStaysValidCard

/-- THE TIED CARD OF 'multikernellaw13.ForestGrows'. -/
def forestGrowsCard : Claim7 := { stood := { row := forestGrowsRow, standIns := [], harness := (true, "bf67d4889713ecb2d6b470e2eb654e12bbfd9308713aec427d249bb43584bacb"), looks := false }, kinds := [], alts := [], laidByText := true, laidKinds := [.data, .data], laidTests := true, laidLooks := .later }
def ForestGrowsCardSaid : Prop := Claim7.holds Tryz.pinned (.plain (OpenSpec.ofChange forestGrowsSpec)) forestGrowsCard

/-- THE TIED CARD OF 'multikernellaw13.ForestReparents'. -/
def forestReparentsCard : Claim7 := { stood := { row := forestReparentsRow, standIns := [], harness := (true, "bf67d4889713ecb2d6b470e2eb654e12bbfd9308713aec427d249bb43584bacb"), looks := false }, kinds := [], alts := [], laidByText := true, laidKinds := [.data, .data], laidTests := true, laidLooks := .later }
def ForestReparentsCardSaid : Prop := Claim7.holds Tryz.pinned (.plain (OpenSpec.ofChange forestReparentsSpec)) forestReparentsCard

/-- THE TIED CARD OF 'multikernellaw13.ForestTransitive'. -/
def forestTransitiveCard : Claim7 := { stood := { row := forestTransitiveRow, standIns := [], harness := (true, "bf67d4889713ecb2d6b470e2eb654e12bbfd9308713aec427d249bb43584bacb"), looks := false }, kinds := [], alts := [], laidByText := true, laidKinds := [.data, .data], laidTests := true, laidLooks := .later }
def ForestTransitiveCardSaid : Prop := Claim7.holds Tryz.pinned (.plain (OpenSpec.ofChange forestTransitiveSpec)) forestTransitiveCard

/-- THE TIED CARD OF 'multikernellaw13.ForestInsertRemove'. -/
def forestInsertRemoveCard : Claim7 := { stood := { row := forestInsertRemoveRow, standIns := [], harness := (true, "bf67d4889713ecb2d6b470e2eb654e12bbfd9308713aec427d249bb43584bacb"), looks := false }, kinds := [], alts := [], laidByText := true, laidKinds := [.data, .data], laidTests := true, laidLooks := .later }
def ForestInsertRemoveCardSaid : Prop := Claim7.holds Tryz.pinned (.plain (OpenSpec.ofChange forestInsertRemoveSpec)) forestInsertRemoveCard

/-- THE TIED CARD OF 'multikernellaw13.ForestClaims'. -/
def forestClaimsCard : Claim7 := { stood := { row := forestClaimsRow, standIns := [], harness := (true, "bf67d4889713ecb2d6b470e2eb654e12bbfd9308713aec427d249bb43584bacb"), looks := false }, kinds := [], alts := [], laidByText := true, laidKinds := [.data, .data], laidTests := true, laidLooks := .later }
def ForestClaimsCardSaid : Prop := Claim7.holds Tryz.pinned (.plain (OpenSpec.ofChange forestClaimsSpec)) forestClaimsCard

/-- THE SECOND FORM's CARD OF 'multikernellaw13.ForestValidExact'. -/
def forestValidExactUptoCard : Claim7 := { stood := { row := forestValidExactUptoRow, standIns := [], harness := (true, "bf67d4889713ecb2d6b470e2eb654e12bbfd9308713aec427d249bb43584bacb"), looks := false }, kinds := [], alts := [], laidByText := true, laidKinds := [.data, .data], laidTests := true, laidLooks := .later }
def ForestValidExactUptoCardSaid : Prop := Claim7.holds Tryz.pinned (.plain (OpenSpec.upto forestValidExactSpec)) forestValidExactUptoCard

/-- THE SECOND FORM's CARD OF 'multikernellaw13.ForestQueriesExact'. -/
def forestQueriesExactUptoCard : Claim7 := { stood := { row := forestQueriesExactUptoRow, standIns := [], harness := (true, "bf67d4889713ecb2d6b470e2eb654e12bbfd9308713aec427d249bb43584bacb"), looks := false }, kinds := [], alts := [], laidByText := true, laidKinds := [.data, .data], laidTests := true, laidLooks := .later }
def ForestQueriesExactUptoCardSaid : Prop := Claim7.holds Tryz.pinned (.plain (OpenSpec.upto forestQueriesExactSpec)) forestQueriesExactUptoCard

/-- THE SECOND FORM's CARD OF 'multikernellaw13.ForestChangesExact'. -/
def forestChangesExactUptoCard : Claim7 := { stood := { row := forestChangesExactUptoRow, standIns := [], harness := (true, "bf67d4889713ecb2d6b470e2eb654e12bbfd9308713aec427d249bb43584bacb"), looks := false }, kinds := [], alts := [], laidByText := true, laidKinds := [.data, .data], laidTests := true, laidLooks := .later }
def ForestChangesExactUptoCardSaid : Prop := Claim7.holds Tryz.pinned (.plain (OpenSpec.upto forestChangesExactSpec)) forestChangesExactUptoCard

/-- THE SECOND FORM's CARD OF 'multikernellaw13.ForestConflictExact'. -/
def forestConflictExactUptoCard : Claim7 := { stood := { row := forestConflictExactUptoRow, standIns := [], harness := (true, "bf67d4889713ecb2d6b470e2eb654e12bbfd9308713aec427d249bb43584bacb"), looks := false }, kinds := [], alts := [], laidByText := true, laidKinds := [.data, .data], laidTests := true, laidLooks := .later }
def ForestConflictExactUptoCardSaid : Prop := Claim7.holds Tryz.pinned (.plain (OpenSpec.upto forestConflictExactSpec)) forestConflictExactUptoCard

/-- THE SECOND FORM's CARD OF 'multikernellaw13.ForestStaysValid'. -/
def forestStaysValidUptoCard : Claim7 := { stood := { row := forestStaysValidUptoRow, standIns := [], harness := (true, "bf67d4889713ecb2d6b470e2eb654e12bbfd9308713aec427d249bb43584bacb"), looks := false }, kinds := [], alts := [], laidByText := true, laidKinds := [.data, .data], laidTests := true, laidLooks := .later }
def ForestStaysValidUptoCardSaid : Prop := Claim7.holds Tryz.pinned (.plain (OpenSpec.upto forestStaysValidSpec)) forestStaysValidUptoCard

/-- THE SECOND FORM's CARD OF 'multikernellaw13.ForestGrows'. -/
def forestGrowsUptoCard : Claim7 := { stood := { row := forestGrowsUptoRow, standIns := [], harness := (true, "bf67d4889713ecb2d6b470e2eb654e12bbfd9308713aec427d249bb43584bacb"), looks := false }, kinds := [], alts := [], laidByText := true, laidKinds := [.data, .data], laidTests := true, laidLooks := .later }
def ForestGrowsUptoCardSaid : Prop := Claim7.holds Tryz.pinned (.plain (OpenSpec.upto forestGrowsSpec)) forestGrowsUptoCard

/-- THE SECOND FORM's CARD OF 'multikernellaw13.ForestReparents'. -/
def forestReparentsUptoCard : Claim7 := { stood := { row := forestReparentsUptoRow, standIns := [], harness := (true, "bf67d4889713ecb2d6b470e2eb654e12bbfd9308713aec427d249bb43584bacb"), looks := false }, kinds := [], alts := [], laidByText := true, laidKinds := [.data, .data], laidTests := true, laidLooks := .later }
def ForestReparentsUptoCardSaid : Prop := Claim7.holds Tryz.pinned (.plain (OpenSpec.upto forestReparentsSpec)) forestReparentsUptoCard

/-- THE SECOND FORM's CARD OF 'multikernellaw13.ForestTransitive'. -/
def forestTransitiveUptoCard : Claim7 := { stood := { row := forestTransitiveUptoRow, standIns := [], harness := (true, "bf67d4889713ecb2d6b470e2eb654e12bbfd9308713aec427d249bb43584bacb"), looks := false }, kinds := [], alts := [], laidByText := true, laidKinds := [.data, .data], laidTests := true, laidLooks := .later }
def ForestTransitiveUptoCardSaid : Prop := Claim7.holds Tryz.pinned (.plain (OpenSpec.upto forestTransitiveSpec)) forestTransitiveUptoCard

/-- THE SECOND FORM's CARD OF 'multikernellaw13.ForestInsertRemove'. -/
def forestInsertRemoveUptoCard : Claim7 := { stood := { row := forestInsertRemoveUptoRow, standIns := [], harness := (true, "bf67d4889713ecb2d6b470e2eb654e12bbfd9308713aec427d249bb43584bacb"), looks := false }, kinds := [], alts := [], laidByText := true, laidKinds := [.data, .data], laidTests := true, laidLooks := .later }
def ForestInsertRemoveUptoCardSaid : Prop := Claim7.holds Tryz.pinned (.plain (OpenSpec.upto forestInsertRemoveSpec)) forestInsertRemoveUptoCard

/-- THE SECOND FORM's CARD OF 'multikernellaw13.ForestClaims'. -/
def forestClaimsUptoCard : Claim7 := { stood := { row := forestClaimsUptoRow, standIns := [], harness := (true, "bf67d4889713ecb2d6b470e2eb654e12bbfd9308713aec427d249bb43584bacb"), looks := false }, kinds := [], alts := [], laidByText := true, laidKinds := [.data, .data], laidTests := true, laidLooks := .later }
def ForestClaimsUptoCardSaid : Prop := Claim7.holds Tryz.pinned (.plain (OpenSpec.upto forestClaimsSpec)) forestClaimsUptoCard
end Rows
end Go.Proofs.YtndppbfdcceflaaGreatDoor
