/-
  DERIVED. GIVEN WITH THE SEED: THE CARDS: each row of YtlndafkmihdbmaaDoorRows.lean that lists a variable, with what it lists TIED to the program's text (the seventh form; the later family's looks); each row that meets fmt, with fmt's text TOLD by the authors' own Lean function (tested against real Go, not proved from fmt's source: count such statements apart). THE CARD IS WHAT COUNTS. Prove the row's statement (the work); the ties are given (YtlndafkmihdbmaaDoorTie.lean); close each card by the builder's one call (the guide's Derived/Test/ToyasCard.lean, 'card_holds'). Laid BY PROGRAM, IN A SANDBOX (cutbox-door.mjs). By AI agents, Wed Nov 11 2026. No macro, syntax, notation, axiom, sorry.
-/
import Derived.Test.YtlndafkmihdbmaaDoorRows
import GoSem.ClaimSeven
namespace Go.Proofs.YtlndafkmihdbmaaDoor
namespace Rows

/-- THE TIED CARD OF 'multikernellaw10.RangeExact'. -/
def rangeExactCard : Claim7 := { stood := { row := rangeExactRow, standIns := [], harness := (true, "201a54002ad44d09ab026266dc1934962e3b1f6ef4425462f54b14d4baa232e7"), looks := false }, kinds := [], alts := [], laidByText := true, laidKinds := [.data, .data], laidTests := true, laidLooks := .later }
def RangeExactCardSaid : Prop := Claim7.holds Tryd.pinned (.plain (OpenSpec.ofChange rangeExactSpec)) rangeExactCard

/-- THE TIED CARD OF 'multikernellaw10.RangeFreeExact'. -/
def rangeFreeExactCard : Claim7 := { stood := { row := rangeFreeExactRow, standIns := [], harness := (true, "201a54002ad44d09ab026266dc1934962e3b1f6ef4425462f54b14d4baa232e7"), looks := false }, kinds := [], alts := [], laidByText := true, laidKinds := [.data, .data], laidTests := true, laidLooks := .later }
def RangeFreeExactCardSaid : Prop := Claim7.holds Tryd.pinned (.plain (OpenSpec.ofChange rangeFreeExactSpec)) rangeFreeExactCard

/-- THE TIED CARD OF 'multikernellaw10.RangeFindExact'. -/
def rangeFindExactCard : Claim7 := { stood := { row := rangeFindExactRow, standIns := [], harness := (true, "201a54002ad44d09ab026266dc1934962e3b1f6ef4425462f54b14d4baa232e7"), looks := false }, kinds := [], alts := [], laidByText := true, laidKinds := [.data, .data], laidTests := true, laidLooks := .later }
def RangeFindExactCardSaid : Prop := Claim7.holds Tryd.pinned (.plain (OpenSpec.ofChange rangeFindExactSpec)) rangeFindExactCard

/-- THE TIED CARD OF 'multikernellaw10.RangeCoveredExact'. -/
def rangeCoveredExactCard : Claim7 := { stood := { row := rangeCoveredExactRow, standIns := [], harness := (true, "201a54002ad44d09ab026266dc1934962e3b1f6ef4425462f54b14d4baa232e7"), looks := false }, kinds := [], alts := [], laidByText := true, laidKinds := [.data, .data], laidTests := true, laidLooks := .later }
def RangeCoveredExactCardSaid : Prop := Claim7.holds Tryd.pinned (.plain (OpenSpec.ofChange rangeCoveredExactSpec)) rangeCoveredExactCard

/-- THE TIED CARD OF 'multikernellaw10.RangeNested'. -/
def rangeNestedCard : Claim7 := { stood := { row := rangeNestedRow, standIns := [], harness := (true, "201a54002ad44d09ab026266dc1934962e3b1f6ef4425462f54b14d4baa232e7"), looks := false }, kinds := [], alts := [], laidByText := true, laidKinds := [.data, .data], laidTests := true, laidLooks := .later }
def RangeNestedCardSaid : Prop := Claim7.holds Tryd.pinned (.plain (OpenSpec.ofChange rangeNestedSpec)) rangeNestedCard

/-- THE TIED CARD OF 'multikernellaw10.RangeHalves'. -/
def rangeHalvesCard : Claim7 := { stood := { row := rangeHalvesRow, standIns := [], harness := (true, "201a54002ad44d09ab026266dc1934962e3b1f6ef4425462f54b14d4baa232e7"), looks := false }, kinds := [], alts := [], laidByText := true, laidKinds := [.data, .data], laidTests := true, laidLooks := .later }
def RangeHalvesCardSaid : Prop := Claim7.holds Tryd.pinned (.plain (OpenSpec.ofChange rangeHalvesSpec)) rangeHalvesCard

/-- THE TIED CARD OF 'multikernellaw10.RangePartition'. -/
def rangePartitionCard : Claim7 := { stood := { row := rangePartitionRow, standIns := [], harness := (true, "201a54002ad44d09ab026266dc1934962e3b1f6ef4425462f54b14d4baa232e7"), looks := false }, kinds := [], alts := [], laidByText := true, laidKinds := [.data, .data], laidTests := true, laidLooks := .later }
def RangePartitionCardSaid : Prop := Claim7.holds Tryd.pinned (.plain (OpenSpec.ofChange rangePartitionSpec)) rangePartitionCard

/-- THE TIED CARD OF 'multikernellaw10.RangeMaximal'. -/
def rangeMaximalCard : Claim7 := { stood := { row := rangeMaximalRow, standIns := [], harness := (true, "201a54002ad44d09ab026266dc1934962e3b1f6ef4425462f54b14d4baa232e7"), looks := false }, kinds := [], alts := [], laidByText := true, laidKinds := [.data, .data], laidTests := true, laidLooks := .later }
def RangeMaximalCardSaid : Prop := Claim7.holds Tryd.pinned (.plain (OpenSpec.ofChange rangeMaximalSpec)) rangeMaximalCard

/-- THE TIED CARD OF 'multikernellaw10.RangeSplits'. -/
def rangeSplitsCard : Claim7 := { stood := { row := rangeSplitsRow, standIns := [], harness := (true, "201a54002ad44d09ab026266dc1934962e3b1f6ef4425462f54b14d4baa232e7"), looks := false }, kinds := [], alts := [], laidByText := true, laidKinds := [.data, .data], laidTests := true, laidLooks := .later }
def RangeSplitsCardSaid : Prop := Claim7.holds Tryd.pinned (.plain (OpenSpec.ofChange rangeSplitsSpec)) rangeSplitsCard

/-- THE TIED CARD OF 'multikernellaw10.RangeLowest'. -/
def rangeLowestCard : Claim7 := { stood := { row := rangeLowestRow, standIns := [], harness := (true, "201a54002ad44d09ab026266dc1934962e3b1f6ef4425462f54b14d4baa232e7"), looks := false }, kinds := [], alts := [], laidByText := true, laidKinds := [.data, .data], laidTests := true, laidLooks := .later }
def RangeLowestCardSaid : Prop := Claim7.holds Tryd.pinned (.plain (OpenSpec.ofChange rangeLowestSpec)) rangeLowestCard

/-- THE TIED CARD OF 'multikernellaw10.RangeAllocate'. -/
def rangeAllocateCard : Claim7 := { stood := { row := rangeAllocateRow, standIns := [], harness := (true, "201a54002ad44d09ab026266dc1934962e3b1f6ef4425462f54b14d4baa232e7"), looks := false }, kinds := [], alts := [], laidByText := true, laidKinds := [.data, .data], laidTests := true, laidLooks := .later }
def RangeAllocateCardSaid : Prop := Claim7.holds Tryd.pinned (.plain (OpenSpec.ofChange rangeAllocateSpec)) rangeAllocateCard

/-- THE TIED CARD OF 'multikernellaw10.RangeCovered'. -/
def rangeCoveredCard : Claim7 := { stood := { row := rangeCoveredRow, standIns := [], harness := (true, "201a54002ad44d09ab026266dc1934962e3b1f6ef4425462f54b14d4baa232e7"), looks := false }, kinds := [], alts := [], laidByText := true, laidKinds := [.data, .data], laidTests := true, laidLooks := .later }
def RangeCoveredCardSaid : Prop := Claim7.holds Tryd.pinned (.plain (OpenSpec.ofChange rangeCoveredSpec)) rangeCoveredCard

/-- THE SECOND FORM's CARD OF 'multikernellaw10.RangeExact'. -/
def rangeExactUptoCard : Claim7 := { stood := { row := rangeExactUptoRow, standIns := [], harness := (true, "201a54002ad44d09ab026266dc1934962e3b1f6ef4425462f54b14d4baa232e7"), looks := false }, kinds := [], alts := [], laidByText := true, laidKinds := [.data, .data], laidTests := true, laidLooks := .later }
def RangeExactUptoCardSaid : Prop := Claim7.holds Tryd.pinned (.plain (OpenSpec.upto rangeExactSpec)) rangeExactUptoCard

/-- THE SECOND FORM's CARD OF 'multikernellaw10.RangeFreeExact'. -/
def rangeFreeExactUptoCard : Claim7 := { stood := { row := rangeFreeExactUptoRow, standIns := [], harness := (true, "201a54002ad44d09ab026266dc1934962e3b1f6ef4425462f54b14d4baa232e7"), looks := false }, kinds := [], alts := [], laidByText := true, laidKinds := [.data, .data], laidTests := true, laidLooks := .later }
def RangeFreeExactUptoCardSaid : Prop := Claim7.holds Tryd.pinned (.plain (OpenSpec.upto rangeFreeExactSpec)) rangeFreeExactUptoCard

/-- THE SECOND FORM's CARD OF 'multikernellaw10.RangeFindExact'. -/
def rangeFindExactUptoCard : Claim7 := { stood := { row := rangeFindExactUptoRow, standIns := [], harness := (true, "201a54002ad44d09ab026266dc1934962e3b1f6ef4425462f54b14d4baa232e7"), looks := false }, kinds := [], alts := [], laidByText := true, laidKinds := [.data, .data], laidTests := true, laidLooks := .later }
def RangeFindExactUptoCardSaid : Prop := Claim7.holds Tryd.pinned (.plain (OpenSpec.upto rangeFindExactSpec)) rangeFindExactUptoCard

/-- THE SECOND FORM's CARD OF 'multikernellaw10.RangeCoveredExact'. -/
def rangeCoveredExactUptoCard : Claim7 := { stood := { row := rangeCoveredExactUptoRow, standIns := [], harness := (true, "201a54002ad44d09ab026266dc1934962e3b1f6ef4425462f54b14d4baa232e7"), looks := false }, kinds := [], alts := [], laidByText := true, laidKinds := [.data, .data], laidTests := true, laidLooks := .later }
def RangeCoveredExactUptoCardSaid : Prop := Claim7.holds Tryd.pinned (.plain (OpenSpec.upto rangeCoveredExactSpec)) rangeCoveredExactUptoCard

/-- THE SECOND FORM's CARD OF 'multikernellaw10.RangeNested'. -/
def rangeNestedUptoCard : Claim7 := { stood := { row := rangeNestedUptoRow, standIns := [], harness := (true, "201a54002ad44d09ab026266dc1934962e3b1f6ef4425462f54b14d4baa232e7"), looks := false }, kinds := [], alts := [], laidByText := true, laidKinds := [.data, .data], laidTests := true, laidLooks := .later }
def RangeNestedUptoCardSaid : Prop := Claim7.holds Tryd.pinned (.plain (OpenSpec.upto rangeNestedSpec)) rangeNestedUptoCard

/-- THE SECOND FORM's CARD OF 'multikernellaw10.RangeHalves'. -/
def rangeHalvesUptoCard : Claim7 := { stood := { row := rangeHalvesUptoRow, standIns := [], harness := (true, "201a54002ad44d09ab026266dc1934962e3b1f6ef4425462f54b14d4baa232e7"), looks := false }, kinds := [], alts := [], laidByText := true, laidKinds := [.data, .data], laidTests := true, laidLooks := .later }
def RangeHalvesUptoCardSaid : Prop := Claim7.holds Tryd.pinned (.plain (OpenSpec.upto rangeHalvesSpec)) rangeHalvesUptoCard

/-- THE SECOND FORM's CARD OF 'multikernellaw10.RangePartition'. -/
def rangePartitionUptoCard : Claim7 := { stood := { row := rangePartitionUptoRow, standIns := [], harness := (true, "201a54002ad44d09ab026266dc1934962e3b1f6ef4425462f54b14d4baa232e7"), looks := false }, kinds := [], alts := [], laidByText := true, laidKinds := [.data, .data], laidTests := true, laidLooks := .later }
def RangePartitionUptoCardSaid : Prop := Claim7.holds Tryd.pinned (.plain (OpenSpec.upto rangePartitionSpec)) rangePartitionUptoCard

/-- THE SECOND FORM's CARD OF 'multikernellaw10.RangeMaximal'. -/
def rangeMaximalUptoCard : Claim7 := { stood := { row := rangeMaximalUptoRow, standIns := [], harness := (true, "201a54002ad44d09ab026266dc1934962e3b1f6ef4425462f54b14d4baa232e7"), looks := false }, kinds := [], alts := [], laidByText := true, laidKinds := [.data, .data], laidTests := true, laidLooks := .later }
def RangeMaximalUptoCardSaid : Prop := Claim7.holds Tryd.pinned (.plain (OpenSpec.upto rangeMaximalSpec)) rangeMaximalUptoCard

/-- THE SECOND FORM's CARD OF 'multikernellaw10.RangeSplits'. -/
def rangeSplitsUptoCard : Claim7 := { stood := { row := rangeSplitsUptoRow, standIns := [], harness := (true, "201a54002ad44d09ab026266dc1934962e3b1f6ef4425462f54b14d4baa232e7"), looks := false }, kinds := [], alts := [], laidByText := true, laidKinds := [.data, .data], laidTests := true, laidLooks := .later }
def RangeSplitsUptoCardSaid : Prop := Claim7.holds Tryd.pinned (.plain (OpenSpec.upto rangeSplitsSpec)) rangeSplitsUptoCard

/-- THE SECOND FORM's CARD OF 'multikernellaw10.RangeLowest'. -/
def rangeLowestUptoCard : Claim7 := { stood := { row := rangeLowestUptoRow, standIns := [], harness := (true, "201a54002ad44d09ab026266dc1934962e3b1f6ef4425462f54b14d4baa232e7"), looks := false }, kinds := [], alts := [], laidByText := true, laidKinds := [.data, .data], laidTests := true, laidLooks := .later }
def RangeLowestUptoCardSaid : Prop := Claim7.holds Tryd.pinned (.plain (OpenSpec.upto rangeLowestSpec)) rangeLowestUptoCard

/-- THE SECOND FORM's CARD OF 'multikernellaw10.RangeAllocate'. -/
def rangeAllocateUptoCard : Claim7 := { stood := { row := rangeAllocateUptoRow, standIns := [], harness := (true, "201a54002ad44d09ab026266dc1934962e3b1f6ef4425462f54b14d4baa232e7"), looks := false }, kinds := [], alts := [], laidByText := true, laidKinds := [.data, .data], laidTests := true, laidLooks := .later }
def RangeAllocateUptoCardSaid : Prop := Claim7.holds Tryd.pinned (.plain (OpenSpec.upto rangeAllocateSpec)) rangeAllocateUptoCard

/-- THE SECOND FORM's CARD OF 'multikernellaw10.RangeCovered'. -/
def rangeCoveredUptoCard : Claim7 := { stood := { row := rangeCoveredUptoRow, standIns := [], harness := (true, "201a54002ad44d09ab026266dc1934962e3b1f6ef4425462f54b14d4baa232e7"), looks := false }, kinds := [], alts := [], laidByText := true, laidKinds := [.data, .data], laidTests := true, laidLooks := .later }
def RangeCoveredUptoCardSaid : Prop := Claim7.holds Tryd.pinned (.plain (OpenSpec.upto rangeCoveredSpec)) rangeCoveredUptoCard
end Rows
end Go.Proofs.YtlndafkmihdbmaaDoor
