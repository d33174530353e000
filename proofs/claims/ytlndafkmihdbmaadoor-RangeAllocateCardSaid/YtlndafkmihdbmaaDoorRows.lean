/-
  NARROWER THAN 'FOR EVERY INPUT', by the rows' own cells (each row's printed sentence says how): RangeExact: laid · RangeFreeExact: laid · RangeFindExact: laid · RangeCoveredExact: laid · RangeNested: laid · RangeHalves: laid · RangePartition: laid · RangeMaximal: laid · RangeSplits: laid · RangeLowest: laid · RangeAllocate: laid · RangeCovered: laid.
  DERIVED. THE GIVEN ROWS OF THIS SEAT. 12 by the template 'for every input the law returns true; each argument reads behind the call as it read before'; 0 by the template 'total and deterministic' (their statements: YtlndafkmihdbmaaDoorTotals.lean).
  GIVEN WITH THE SEED: the statements are not yours to turn. If you find one false, say at which input.
  Laid BY PROGRAM, IN A SANDBOX (cutbox-rows.mjs): the forced cells as the released guide's own fill.sh prints them over the translation 352de3292f3e3b72… (all of the seat's roots in one cut). By AI agents, Wed Nov 11 2026. No macro, syntax, notation, axiom, sorry.
-/
import Derived.Test.YtlndafkmihdbmaaDoorChecked
import GoSem.Claim
import GoSem.ClaimJoined
import GoSem.ClaimMapViews
import Derived.JoinedTies
import Derived.KernelRfl
namespace Go.Proofs.YtlndafkmihdbmaaDoor
/- THE CELL 'sum', in the pinned program and in every row, IS THE sha256 OF THE DUMP (.gsa) THAT YtlndafkmihdbmaaDoorProg.lean LOADS. Nothing in Lean hashes anything: it is a label: what it is worth is what the hold of that sum in a sandbox is worth. -/
noncomputable def Tryd.pinned : Pinned := { name := "ytlndafkmihdbmaadoor", sum := "352de3292f3e3b7288f4a70aec6c9cf9787f96622be8c9c6c9ec9e388869e56d", checked := Tryd.checked }
namespace Rows
def none {H : Type} : Left H := { results := [], args := [] }

/- WHAT THE LISTED PACKAGE-LEVEL VARIABLES READ AS WHEN THE CALL BEGINS. Each datum BY PROGRAM (the guide's laid-datum.mjs) off the statement by which the dump's own 'gosem.cut.vars' lays the variable. In a bare row this is a premise. The card (YtlndafkmihdbmaaDoorCards.lean) ties it to the program's text. -/
def laid_math_bits_deBruijn32tab {H : Type} : DataW H := .agg [.lit (.int .u8 0), .lit (.int .u8 1), .lit (.int .u8 28), .lit (.int .u8 2), .lit (.int .u8 29), .lit (.int .u8 14), .lit (.int .u8 24), .lit (.int .u8 3), .lit (.int .u8 30), .lit (.int .u8 22), .lit (.int .u8 20), .lit (.int .u8 15), .lit (.int .u8 25), .lit (.int .u8 17), .lit (.int .u8 4), .lit (.int .u8 8), .lit (.int .u8 31), .lit (.int .u8 27), .lit (.int .u8 13), .lit (.int .u8 23), .lit (.int .u8 21), .lit (.int .u8 19), .lit (.int .u8 16), .lit (.int .u8 7), .lit (.int .u8 26), .lit (.int .u8 12), .lit (.int .u8 18), .lit (.int .u8 6), .lit (.int .u8 11), .lit (.int .u8 5), .lit (.int .u8 10), .lit (.int .u8 9)]
def laid_math_bits_deBruijn64tab {H : Type} : DataW H := .agg [.lit (.int .u8 0), .lit (.int .u8 1), .lit (.int .u8 56), .lit (.int .u8 2), .lit (.int .u8 57), .lit (.int .u8 49), .lit (.int .u8 28), .lit (.int .u8 3), .lit (.int .u8 61), .lit (.int .u8 58), .lit (.int .u8 42), .lit (.int .u8 50), .lit (.int .u8 38), .lit (.int .u8 29), .lit (.int .u8 17), .lit (.int .u8 4), .lit (.int .u8 62), .lit (.int .u8 47), .lit (.int .u8 59), .lit (.int .u8 36), .lit (.int .u8 45), .lit (.int .u8 43), .lit (.int .u8 51), .lit (.int .u8 22), .lit (.int .u8 53), .lit (.int .u8 39), .lit (.int .u8 33), .lit (.int .u8 30), .lit (.int .u8 24), .lit (.int .u8 18), .lit (.int .u8 12), .lit (.int .u8 5), .lit (.int .u8 63), .lit (.int .u8 55), .lit (.int .u8 48), .lit (.int .u8 27), .lit (.int .u8 60), .lit (.int .u8 41), .lit (.int .u8 37), .lit (.int .u8 16), .lit (.int .u8 46), .lit (.int .u8 35), .lit (.int .u8 44), .lit (.int .u8 21), .lit (.int .u8 52), .lit (.int .u8 32), .lit (.int .u8 23), .lit (.int .u8 11), .lit (.int .u8 54), .lit (.int .u8 26), .lit (.int .u8 40), .lit (.int .u8 15), .lit (.int .u8 34), .lit (.int .u8 20), .lit (.int .u8 31), .lit (.int .u8 10), .lit (.int .u8 25), .lit (.int .u8 14), .lit (.int .u8 19), .lit (.int .u8 9), .lit (.int .u8 13), .lit (.int .u8 8), .lit (.int .u8 7), .lit (.int .u8 6)]

/-- 'multikernellaw10.RangeExact': WHATEVER THE INPUT: true; the input reads as it did. -/
def rangeExactSpec : ChangeSpec := { name := "rangeExact", fn := fun _ => fun
  | [d1, d2] => { results := [.lit (.bool true)], args := [d1, d2] }
  | _ => none }
def rangeExactRow : OpenClaim := { program := "ytlndafkmihdbmaadoor", sum := "352de3292f3e3b7288f4a70aec6c9cf9787f96622be8c9c6c9ec9e388869e56d", func := "multikernel/multikernellaw10.RangeExact", spec := "rangeExact", unfollowed := true, recurses := true, named := ["math/bits.deBruijn32tab", "math/bits.deBruijn64tab"], apart := false, laid := [("math/bits.deBruijn32tab", laid_math_bits_deBruijn32tab), ("math/bits.deBruijn64tab", laid_math_bits_deBruijn64tab)] }
def RangeExactSaid : Prop := rangeExactRow.holds Tryd.pinned (OpenSpec.ofChange rangeExactSpec)

/-- ITS FALSE NEIGHBOUR: 'it returns false'. Refute it at one input. -/
def rangeExactWrong : ChangeSpec := { name := "rangeExact", fn := fun _ => fun
  | [d1, d2] => { results := [.lit (.bool false)], args := [d1, d2] }
  | _ => none }
def RangeExactWrongFalsely : Prop := rangeExactRow.holds Tryd.pinned (OpenSpec.ofChange rangeExactWrong)

/-- 'multikernellaw10.RangeFreeExact': WHATEVER THE INPUT: true; the input reads as it did. -/
def rangeFreeExactSpec : ChangeSpec := { name := "rangeFreeExact", fn := fun _ => fun
  | [d1, d2] => { results := [.lit (.bool true)], args := [d1, d2] }
  | _ => none }
def rangeFreeExactRow : OpenClaim := { program := "ytlndafkmihdbmaadoor", sum := "352de3292f3e3b7288f4a70aec6c9cf9787f96622be8c9c6c9ec9e388869e56d", func := "multikernel/multikernellaw10.RangeFreeExact", spec := "rangeFreeExact", unfollowed := true, recurses := true, named := ["math/bits.deBruijn32tab", "math/bits.deBruijn64tab"], apart := false, laid := [("math/bits.deBruijn32tab", laid_math_bits_deBruijn32tab), ("math/bits.deBruijn64tab", laid_math_bits_deBruijn64tab)] }
def RangeFreeExactSaid : Prop := rangeFreeExactRow.holds Tryd.pinned (OpenSpec.ofChange rangeFreeExactSpec)

/-- ITS FALSE NEIGHBOUR: 'it returns false'. Refute it at one input. -/
def rangeFreeExactWrong : ChangeSpec := { name := "rangeFreeExact", fn := fun _ => fun
  | [d1, d2] => { results := [.lit (.bool false)], args := [d1, d2] }
  | _ => none }
def RangeFreeExactWrongFalsely : Prop := rangeFreeExactRow.holds Tryd.pinned (OpenSpec.ofChange rangeFreeExactWrong)

/-- 'multikernellaw10.RangeFindExact': WHATEVER THE INPUT: true; the input reads as it did. -/
def rangeFindExactSpec : ChangeSpec := { name := "rangeFindExact", fn := fun _ => fun
  | [d1, d2, d3] => { results := [.lit (.bool true)], args := [d1, d2, d3] }
  | _ => none }
def rangeFindExactRow : OpenClaim := { program := "ytlndafkmihdbmaadoor", sum := "352de3292f3e3b7288f4a70aec6c9cf9787f96622be8c9c6c9ec9e388869e56d", func := "multikernel/multikernellaw10.RangeFindExact", spec := "rangeFindExact", unfollowed := true, recurses := true, named := ["math/bits.deBruijn32tab", "math/bits.deBruijn64tab"], apart := false, laid := [("math/bits.deBruijn32tab", laid_math_bits_deBruijn32tab), ("math/bits.deBruijn64tab", laid_math_bits_deBruijn64tab)] }
def RangeFindExactSaid : Prop := rangeFindExactRow.holds Tryd.pinned (OpenSpec.ofChange rangeFindExactSpec)

/-- ITS FALSE NEIGHBOUR: 'it returns false'. Refute it at one input. -/
def rangeFindExactWrong : ChangeSpec := { name := "rangeFindExact", fn := fun _ => fun
  | [d1, d2, d3] => { results := [.lit (.bool false)], args := [d1, d2, d3] }
  | _ => none }
def RangeFindExactWrongFalsely : Prop := rangeFindExactRow.holds Tryd.pinned (OpenSpec.ofChange rangeFindExactWrong)

/-- 'multikernellaw10.RangeCoveredExact': WHATEVER THE INPUT: true; the input reads as it did. -/
def rangeCoveredExactSpec : ChangeSpec := { name := "rangeCoveredExact", fn := fun _ => fun
  | [d] => { results := [.lit (.bool true)], args := [d] }
  | _ => none }
def rangeCoveredExactRow : OpenClaim := { program := "ytlndafkmihdbmaadoor", sum := "352de3292f3e3b7288f4a70aec6c9cf9787f96622be8c9c6c9ec9e388869e56d", func := "multikernel/multikernellaw10.RangeCoveredExact", spec := "rangeCoveredExact", unfollowed := true, recurses := true, named := ["math/bits.deBruijn32tab", "math/bits.deBruijn64tab"], apart := false, laid := [("math/bits.deBruijn32tab", laid_math_bits_deBruijn32tab), ("math/bits.deBruijn64tab", laid_math_bits_deBruijn64tab)] }
def RangeCoveredExactSaid : Prop := rangeCoveredExactRow.holds Tryd.pinned (OpenSpec.ofChange rangeCoveredExactSpec)

/-- ITS FALSE NEIGHBOUR: 'it returns false'. Refute it at one input. -/
def rangeCoveredExactWrong : ChangeSpec := { name := "rangeCoveredExact", fn := fun _ => fun
  | [d] => { results := [.lit (.bool false)], args := [d] }
  | _ => none }
def RangeCoveredExactWrongFalsely : Prop := rangeCoveredExactRow.holds Tryd.pinned (OpenSpec.ofChange rangeCoveredExactWrong)

/-- 'multikernellaw10.RangeNested': WHATEVER THE INPUT: true; the input reads as it did. -/
def rangeNestedSpec : ChangeSpec := { name := "rangeNested", fn := fun _ => fun
  | [d1, d2, d3, d4] => { results := [.lit (.bool true)], args := [d1, d2, d3, d4] }
  | _ => none }
def rangeNestedRow : OpenClaim := { program := "ytlndafkmihdbmaadoor", sum := "352de3292f3e3b7288f4a70aec6c9cf9787f96622be8c9c6c9ec9e388869e56d", func := "multikernel/multikernellaw10.RangeNested", spec := "rangeNested", unfollowed := true, recurses := true, named := ["math/bits.deBruijn32tab", "math/bits.deBruijn64tab"], apart := false, laid := [("math/bits.deBruijn32tab", laid_math_bits_deBruijn32tab), ("math/bits.deBruijn64tab", laid_math_bits_deBruijn64tab)] }
def RangeNestedSaid : Prop := rangeNestedRow.holds Tryd.pinned (OpenSpec.ofChange rangeNestedSpec)

/-- ITS FALSE NEIGHBOUR: 'it returns false'. Refute it at one input. -/
def rangeNestedWrong : ChangeSpec := { name := "rangeNested", fn := fun _ => fun
  | [d1, d2, d3, d4] => { results := [.lit (.bool false)], args := [d1, d2, d3, d4] }
  | _ => none }
def RangeNestedWrongFalsely : Prop := rangeNestedRow.holds Tryd.pinned (OpenSpec.ofChange rangeNestedWrong)

/-- 'multikernellaw10.RangeHalves': WHATEVER THE INPUT: true; the input reads as it did. -/
def rangeHalvesSpec : ChangeSpec := { name := "rangeHalves", fn := fun _ => fun
  | [d1, d2] => { results := [.lit (.bool true)], args := [d1, d2] }
  | _ => none }
def rangeHalvesRow : OpenClaim := { program := "ytlndafkmihdbmaadoor", sum := "352de3292f3e3b7288f4a70aec6c9cf9787f96622be8c9c6c9ec9e388869e56d", func := "multikernel/multikernellaw10.RangeHalves", spec := "rangeHalves", unfollowed := true, recurses := true, named := ["math/bits.deBruijn32tab", "math/bits.deBruijn64tab"], apart := false, laid := [("math/bits.deBruijn32tab", laid_math_bits_deBruijn32tab), ("math/bits.deBruijn64tab", laid_math_bits_deBruijn64tab)] }
def RangeHalvesSaid : Prop := rangeHalvesRow.holds Tryd.pinned (OpenSpec.ofChange rangeHalvesSpec)

/-- ITS FALSE NEIGHBOUR: 'it returns false'. Refute it at one input. -/
def rangeHalvesWrong : ChangeSpec := { name := "rangeHalves", fn := fun _ => fun
  | [d1, d2] => { results := [.lit (.bool false)], args := [d1, d2] }
  | _ => none }
def RangeHalvesWrongFalsely : Prop := rangeHalvesRow.holds Tryd.pinned (OpenSpec.ofChange rangeHalvesWrong)

/-- 'multikernellaw10.RangePartition': WHATEVER THE INPUT: true; the input reads as it did. -/
def rangePartitionSpec : ChangeSpec := { name := "rangePartition", fn := fun _ => fun
  | [d1, d2, d3] => { results := [.lit (.bool true)], args := [d1, d2, d3] }
  | _ => none }
def rangePartitionRow : OpenClaim := { program := "ytlndafkmihdbmaadoor", sum := "352de3292f3e3b7288f4a70aec6c9cf9787f96622be8c9c6c9ec9e388869e56d", func := "multikernel/multikernellaw10.RangePartition", spec := "rangePartition", unfollowed := true, recurses := true, named := ["math/bits.deBruijn32tab", "math/bits.deBruijn64tab"], apart := false, laid := [("math/bits.deBruijn32tab", laid_math_bits_deBruijn32tab), ("math/bits.deBruijn64tab", laid_math_bits_deBruijn64tab)] }
def RangePartitionSaid : Prop := rangePartitionRow.holds Tryd.pinned (OpenSpec.ofChange rangePartitionSpec)

/-- ITS FALSE NEIGHBOUR: 'it returns false'. Refute it at one input. -/
def rangePartitionWrong : ChangeSpec := { name := "rangePartition", fn := fun _ => fun
  | [d1, d2, d3] => { results := [.lit (.bool false)], args := [d1, d2, d3] }
  | _ => none }
def RangePartitionWrongFalsely : Prop := rangePartitionRow.holds Tryd.pinned (OpenSpec.ofChange rangePartitionWrong)

/-- 'multikernellaw10.RangeMaximal': WHATEVER THE INPUT: true; the input reads as it did. -/
def rangeMaximalSpec : ChangeSpec := { name := "rangeMaximal", fn := fun _ => fun
  | [d1, d2, d3] => { results := [.lit (.bool true)], args := [d1, d2, d3] }
  | _ => none }
def rangeMaximalRow : OpenClaim := { program := "ytlndafkmihdbmaadoor", sum := "352de3292f3e3b7288f4a70aec6c9cf9787f96622be8c9c6c9ec9e388869e56d", func := "multikernel/multikernellaw10.RangeMaximal", spec := "rangeMaximal", unfollowed := true, recurses := true, named := ["math/bits.deBruijn32tab", "math/bits.deBruijn64tab"], apart := false, laid := [("math/bits.deBruijn32tab", laid_math_bits_deBruijn32tab), ("math/bits.deBruijn64tab", laid_math_bits_deBruijn64tab)] }
def RangeMaximalSaid : Prop := rangeMaximalRow.holds Tryd.pinned (OpenSpec.ofChange rangeMaximalSpec)

/-- ITS FALSE NEIGHBOUR: 'it returns false'. Refute it at one input. -/
def rangeMaximalWrong : ChangeSpec := { name := "rangeMaximal", fn := fun _ => fun
  | [d1, d2, d3] => { results := [.lit (.bool false)], args := [d1, d2, d3] }
  | _ => none }
def RangeMaximalWrongFalsely : Prop := rangeMaximalRow.holds Tryd.pinned (OpenSpec.ofChange rangeMaximalWrong)

/-- 'multikernellaw10.RangeSplits': WHATEVER THE INPUT: true; the input reads as it did. -/
def rangeSplitsSpec : ChangeSpec := { name := "rangeSplits", fn := fun _ => fun
  | [d1, d2, d3] => { results := [.lit (.bool true)], args := [d1, d2, d3] }
  | _ => none }
def rangeSplitsRow : OpenClaim := { program := "ytlndafkmihdbmaadoor", sum := "352de3292f3e3b7288f4a70aec6c9cf9787f96622be8c9c6c9ec9e388869e56d", func := "multikernel/multikernellaw10.RangeSplits", spec := "rangeSplits", unfollowed := true, recurses := true, named := ["math/bits.deBruijn32tab", "math/bits.deBruijn64tab"], apart := false, laid := [("math/bits.deBruijn32tab", laid_math_bits_deBruijn32tab), ("math/bits.deBruijn64tab", laid_math_bits_deBruijn64tab)] }
def RangeSplitsSaid : Prop := rangeSplitsRow.holds Tryd.pinned (OpenSpec.ofChange rangeSplitsSpec)

/-- ITS FALSE NEIGHBOUR: 'it returns false'. Refute it at one input. -/
def rangeSplitsWrong : ChangeSpec := { name := "rangeSplits", fn := fun _ => fun
  | [d1, d2, d3] => { results := [.lit (.bool false)], args := [d1, d2, d3] }
  | _ => none }
def RangeSplitsWrongFalsely : Prop := rangeSplitsRow.holds Tryd.pinned (OpenSpec.ofChange rangeSplitsWrong)

/-- 'multikernellaw10.RangeLowest': WHATEVER THE INPUT: true; the input reads as it did. -/
def rangeLowestSpec : ChangeSpec := { name := "rangeLowest", fn := fun _ => fun
  | [d1, d2, d3, d4] => { results := [.lit (.bool true)], args := [d1, d2, d3, d4] }
  | _ => none }
def rangeLowestRow : OpenClaim := { program := "ytlndafkmihdbmaadoor", sum := "352de3292f3e3b7288f4a70aec6c9cf9787f96622be8c9c6c9ec9e388869e56d", func := "multikernel/multikernellaw10.RangeLowest", spec := "rangeLowest", unfollowed := true, recurses := true, named := ["math/bits.deBruijn32tab", "math/bits.deBruijn64tab"], apart := false, laid := [("math/bits.deBruijn32tab", laid_math_bits_deBruijn32tab), ("math/bits.deBruijn64tab", laid_math_bits_deBruijn64tab)] }
def RangeLowestSaid : Prop := rangeLowestRow.holds Tryd.pinned (OpenSpec.ofChange rangeLowestSpec)

/-- ITS FALSE NEIGHBOUR: 'it returns false'. Refute it at one input. -/
def rangeLowestWrong : ChangeSpec := { name := "rangeLowest", fn := fun _ => fun
  | [d1, d2, d3, d4] => { results := [.lit (.bool false)], args := [d1, d2, d3, d4] }
  | _ => none }
def RangeLowestWrongFalsely : Prop := rangeLowestRow.holds Tryd.pinned (OpenSpec.ofChange rangeLowestWrong)

/-- 'multikernellaw10.RangeAllocate': WHATEVER THE INPUT: true; the input reads as it did. -/
def rangeAllocateSpec : ChangeSpec := { name := "rangeAllocate", fn := fun _ => fun
  | [d1, d2, d3, d4] => { results := [.lit (.bool true)], args := [d1, d2, d3, d4] }
  | _ => none }
def rangeAllocateRow : OpenClaim := { program := "ytlndafkmihdbmaadoor", sum := "352de3292f3e3b7288f4a70aec6c9cf9787f96622be8c9c6c9ec9e388869e56d", func := "multikernel/multikernellaw10.RangeAllocate", spec := "rangeAllocate", unfollowed := true, recurses := true, named := ["math/bits.deBruijn32tab", "math/bits.deBruijn64tab"], apart := false, laid := [("math/bits.deBruijn32tab", laid_math_bits_deBruijn32tab), ("math/bits.deBruijn64tab", laid_math_bits_deBruijn64tab)] }
def RangeAllocateSaid : Prop := rangeAllocateRow.holds Tryd.pinned (OpenSpec.ofChange rangeAllocateSpec)

/-- ITS FALSE NEIGHBOUR: 'it returns false'. Refute it at one input. -/
def rangeAllocateWrong : ChangeSpec := { name := "rangeAllocate", fn := fun _ => fun
  | [d1, d2, d3, d4] => { results := [.lit (.bool false)], args := [d1, d2, d3, d4] }
  | _ => none }
def RangeAllocateWrongFalsely : Prop := rangeAllocateRow.holds Tryd.pinned (OpenSpec.ofChange rangeAllocateWrong)

/-- 'multikernellaw10.RangeCovered': WHATEVER THE INPUT: true; the input reads as it did. -/
def rangeCoveredSpec : ChangeSpec := { name := "rangeCovered", fn := fun _ => fun
  | [d1, d2, d3] => { results := [.lit (.bool true)], args := [d1, d2, d3] }
  | _ => none }
def rangeCoveredRow : OpenClaim := { program := "ytlndafkmihdbmaadoor", sum := "352de3292f3e3b7288f4a70aec6c9cf9787f96622be8c9c6c9ec9e388869e56d", func := "multikernel/multikernellaw10.RangeCovered", spec := "rangeCovered", unfollowed := true, recurses := true, named := ["math/bits.deBruijn32tab", "math/bits.deBruijn64tab"], apart := false, laid := [("math/bits.deBruijn32tab", laid_math_bits_deBruijn32tab), ("math/bits.deBruijn64tab", laid_math_bits_deBruijn64tab)] }
def RangeCoveredSaid : Prop := rangeCoveredRow.holds Tryd.pinned (OpenSpec.ofChange rangeCoveredSpec)

/-- ITS FALSE NEIGHBOUR: 'it returns false'. Refute it at one input. -/
def rangeCoveredWrong : ChangeSpec := { name := "rangeCovered", fn := fun _ => fun
  | [d1, d2, d3] => { results := [.lit (.bool false)], args := [d1, d2, d3] }
  | _ => none }
def RangeCoveredWrongFalsely : Prop := rangeCoveredRow.holds Tryd.pinned (OpenSpec.ofChange rangeCoveredWrong)

/- THE SECOND FORM. 'bulk': how many values and letters a reading holds, each counted each time it is reached (what is shared counts as often as it is met; a slice's spare places count too). A statement '..UptoSaid' is the law's where the arguments, and the package variables that the reading takes, are together of bulk at most 1048576: NARROWER than '..Said'. Prove '..Said' where nothing that the law and all that it calls make is longer than what came in: it says more and counts as full. Else prove '..UptoSaid'. A law counts once. -/
mutual
def uptoBulk {H : Type} : DataW H → Nat
  | .lit (.string bytes) => bytes.length + 1
  | .lit _ => 1
  | .nil => 1
  | .ptr d => uptoBulk d + 1
  | .slice elems spare => uptoBulkAll elems + uptoBulkAll spare + 1
  | .agg parts => uptoBulkAll parts + 1
  | .iface _ d => uptoBulk d + 1
  | .map entries => uptoBulkEntries entries + 1
  | .held _ => 1
def uptoBulkAll {H : Type} : List (DataW H) → Nat
  | [] => 0
  | d :: r => uptoBulk d + uptoBulkAll r
def uptoBulkEntries {H : Type} : List (Lit × DataW H) → Nat
  | [] => 0
  | x :: r => uptoBulkEntry x + uptoBulkEntries r
def uptoBulkEntry {H : Type} : Lit × DataW H → Nat
  | (.string bytes, d) => bytes.length + uptoBulk d + 1
  | (_, d) => uptoBulk d + 1
 end
def uptoSmall : (H : Type) → List (DataW H) → Bool := fun _ ds => decide (uptoBulkAll ds ≤ 1048576)
def OpenSpec.upto (s : _root_.Go.ChangeSpec) : _root_.Go.OpenSpec := { _root_.Go.OpenSpec.ofChange s with cond := some uptoSmall }

/-- 'multikernellaw10.RangeExact', WHERE WHAT IT READS IS OF BULK AT MOST 1048576: true; the input reads as it did. -/
def rangeExactUptoRow : OpenClaim := { program := "ytlndafkmihdbmaadoor", sum := "352de3292f3e3b7288f4a70aec6c9cf9787f96622be8c9c6c9ec9e388869e56d", func := "multikernel/multikernellaw10.RangeExact", spec := "rangeExact", unfollowed := true, recurses := true, named := ["math/bits.deBruijn32tab", "math/bits.deBruijn64tab"], apart := false, laid := [("math/bits.deBruijn32tab", laid_math_bits_deBruijn32tab), ("math/bits.deBruijn64tab", laid_math_bits_deBruijn64tab)], narrowed := true }
def RangeExactUptoSaid : Prop := rangeExactUptoRow.holds Tryd.pinned (OpenSpec.upto rangeExactSpec)

/-- 'multikernellaw10.RangeFreeExact', WHERE WHAT IT READS IS OF BULK AT MOST 1048576: true; the input reads as it did. -/
def rangeFreeExactUptoRow : OpenClaim := { program := "ytlndafkmihdbmaadoor", sum := "352de3292f3e3b7288f4a70aec6c9cf9787f96622be8c9c6c9ec9e388869e56d", func := "multikernel/multikernellaw10.RangeFreeExact", spec := "rangeFreeExact", unfollowed := true, recurses := true, named := ["math/bits.deBruijn32tab", "math/bits.deBruijn64tab"], apart := false, laid := [("math/bits.deBruijn32tab", laid_math_bits_deBruijn32tab), ("math/bits.deBruijn64tab", laid_math_bits_deBruijn64tab)], narrowed := true }
def RangeFreeExactUptoSaid : Prop := rangeFreeExactUptoRow.holds Tryd.pinned (OpenSpec.upto rangeFreeExactSpec)

/-- 'multikernellaw10.RangeFindExact', WHERE WHAT IT READS IS OF BULK AT MOST 1048576: true; the input reads as it did. -/
def rangeFindExactUptoRow : OpenClaim := { program := "ytlndafkmihdbmaadoor", sum := "352de3292f3e3b7288f4a70aec6c9cf9787f96622be8c9c6c9ec9e388869e56d", func := "multikernel/multikernellaw10.RangeFindExact", spec := "rangeFindExact", unfollowed := true, recurses := true, named := ["math/bits.deBruijn32tab", "math/bits.deBruijn64tab"], apart := false, laid := [("math/bits.deBruijn32tab", laid_math_bits_deBruijn32tab), ("math/bits.deBruijn64tab", laid_math_bits_deBruijn64tab)], narrowed := true }
def RangeFindExactUptoSaid : Prop := rangeFindExactUptoRow.holds Tryd.pinned (OpenSpec.upto rangeFindExactSpec)

/-- 'multikernellaw10.RangeCoveredExact', WHERE WHAT IT READS IS OF BULK AT MOST 1048576: true; the input reads as it did. -/
def rangeCoveredExactUptoRow : OpenClaim := { program := "ytlndafkmihdbmaadoor", sum := "352de3292f3e3b7288f4a70aec6c9cf9787f96622be8c9c6c9ec9e388869e56d", func := "multikernel/multikernellaw10.RangeCoveredExact", spec := "rangeCoveredExact", unfollowed := true, recurses := true, named := ["math/bits.deBruijn32tab", "math/bits.deBruijn64tab"], apart := false, laid := [("math/bits.deBruijn32tab", laid_math_bits_deBruijn32tab), ("math/bits.deBruijn64tab", laid_math_bits_deBruijn64tab)], narrowed := true }
def RangeCoveredExactUptoSaid : Prop := rangeCoveredExactUptoRow.holds Tryd.pinned (OpenSpec.upto rangeCoveredExactSpec)

/-- 'multikernellaw10.RangeNested', WHERE WHAT IT READS IS OF BULK AT MOST 1048576: true; the input reads as it did. -/
def rangeNestedUptoRow : OpenClaim := { program := "ytlndafkmihdbmaadoor", sum := "352de3292f3e3b7288f4a70aec6c9cf9787f96622be8c9c6c9ec9e388869e56d", func := "multikernel/multikernellaw10.RangeNested", spec := "rangeNested", unfollowed := true, recurses := true, named := ["math/bits.deBruijn32tab", "math/bits.deBruijn64tab"], apart := false, laid := [("math/bits.deBruijn32tab", laid_math_bits_deBruijn32tab), ("math/bits.deBruijn64tab", laid_math_bits_deBruijn64tab)], narrowed := true }
def RangeNestedUptoSaid : Prop := rangeNestedUptoRow.holds Tryd.pinned (OpenSpec.upto rangeNestedSpec)

/-- 'multikernellaw10.RangeHalves', WHERE WHAT IT READS IS OF BULK AT MOST 1048576: true; the input reads as it did. -/
def rangeHalvesUptoRow : OpenClaim := { program := "ytlndafkmihdbmaadoor", sum := "352de3292f3e3b7288f4a70aec6c9cf9787f96622be8c9c6c9ec9e388869e56d", func := "multikernel/multikernellaw10.RangeHalves", spec := "rangeHalves", unfollowed := true, recurses := true, named := ["math/bits.deBruijn32tab", "math/bits.deBruijn64tab"], apart := false, laid := [("math/bits.deBruijn32tab", laid_math_bits_deBruijn32tab), ("math/bits.deBruijn64tab", laid_math_bits_deBruijn64tab)], narrowed := true }
def RangeHalvesUptoSaid : Prop := rangeHalvesUptoRow.holds Tryd.pinned (OpenSpec.upto rangeHalvesSpec)

/-- 'multikernellaw10.RangePartition', WHERE WHAT IT READS IS OF BULK AT MOST 1048576: true; the input reads as it did. -/
def rangePartitionUptoRow : OpenClaim := { program := "ytlndafkmihdbmaadoor", sum := "352de3292f3e3b7288f4a70aec6c9cf9787f96622be8c9c6c9ec9e388869e56d", func := "multikernel/multikernellaw10.RangePartition", spec := "rangePartition", unfollowed := true, recurses := true, named := ["math/bits.deBruijn32tab", "math/bits.deBruijn64tab"], apart := false, laid := [("math/bits.deBruijn32tab", laid_math_bits_deBruijn32tab), ("math/bits.deBruijn64tab", laid_math_bits_deBruijn64tab)], narrowed := true }
def RangePartitionUptoSaid : Prop := rangePartitionUptoRow.holds Tryd.pinned (OpenSpec.upto rangePartitionSpec)

/-- 'multikernellaw10.RangeMaximal', WHERE WHAT IT READS IS OF BULK AT MOST 1048576: true; the input reads as it did. -/
def rangeMaximalUptoRow : OpenClaim := { program := "ytlndafkmihdbmaadoor", sum := "352de3292f3e3b7288f4a70aec6c9cf9787f96622be8c9c6c9ec9e388869e56d", func := "multikernel/multikernellaw10.RangeMaximal", spec := "rangeMaximal", unfollowed := true, recurses := true, named := ["math/bits.deBruijn32tab", "math/bits.deBruijn64tab"], apart := false, laid := [("math/bits.deBruijn32tab", laid_math_bits_deBruijn32tab), ("math/bits.deBruijn64tab", laid_math_bits_deBruijn64tab)], narrowed := true }
def RangeMaximalUptoSaid : Prop := rangeMaximalUptoRow.holds Tryd.pinned (OpenSpec.upto rangeMaximalSpec)

/-- 'multikernellaw10.RangeSplits', WHERE WHAT IT READS IS OF BULK AT MOST 1048576: true; the input reads as it did. -/
def rangeSplitsUptoRow : OpenClaim := { program := "ytlndafkmihdbmaadoor", sum := "352de3292f3e3b7288f4a70aec6c9cf9787f96622be8c9c6c9ec9e388869e56d", func := "multikernel/multikernellaw10.RangeSplits", spec := "rangeSplits", unfollowed := true, recurses := true, named := ["math/bits.deBruijn32tab", "math/bits.deBruijn64tab"], apart := false, laid := [("math/bits.deBruijn32tab", laid_math_bits_deBruijn32tab), ("math/bits.deBruijn64tab", laid_math_bits_deBruijn64tab)], narrowed := true }
def RangeSplitsUptoSaid : Prop := rangeSplitsUptoRow.holds Tryd.pinned (OpenSpec.upto rangeSplitsSpec)

/-- 'multikernellaw10.RangeLowest', WHERE WHAT IT READS IS OF BULK AT MOST 1048576: true; the input reads as it did. -/
def rangeLowestUptoRow : OpenClaim := { program := "ytlndafkmihdbmaadoor", sum := "352de3292f3e3b7288f4a70aec6c9cf9787f96622be8c9c6c9ec9e388869e56d", func := "multikernel/multikernellaw10.RangeLowest", spec := "rangeLowest", unfollowed := true, recurses := true, named := ["math/bits.deBruijn32tab", "math/bits.deBruijn64tab"], apart := false, laid := [("math/bits.deBruijn32tab", laid_math_bits_deBruijn32tab), ("math/bits.deBruijn64tab", laid_math_bits_deBruijn64tab)], narrowed := true }
def RangeLowestUptoSaid : Prop := rangeLowestUptoRow.holds Tryd.pinned (OpenSpec.upto rangeLowestSpec)

/-- 'multikernellaw10.RangeAllocate', WHERE WHAT IT READS IS OF BULK AT MOST 1048576: true; the input reads as it did. -/
def rangeAllocateUptoRow : OpenClaim := { program := "ytlndafkmihdbmaadoor", sum := "352de3292f3e3b7288f4a70aec6c9cf9787f96622be8c9c6c9ec9e388869e56d", func := "multikernel/multikernellaw10.RangeAllocate", spec := "rangeAllocate", unfollowed := true, recurses := true, named := ["math/bits.deBruijn32tab", "math/bits.deBruijn64tab"], apart := false, laid := [("math/bits.deBruijn32tab", laid_math_bits_deBruijn32tab), ("math/bits.deBruijn64tab", laid_math_bits_deBruijn64tab)], narrowed := true }
def RangeAllocateUptoSaid : Prop := rangeAllocateUptoRow.holds Tryd.pinned (OpenSpec.upto rangeAllocateSpec)

/-- 'multikernellaw10.RangeCovered', WHERE WHAT IT READS IS OF BULK AT MOST 1048576: true; the input reads as it did. -/
def rangeCoveredUptoRow : OpenClaim := { program := "ytlndafkmihdbmaadoor", sum := "352de3292f3e3b7288f4a70aec6c9cf9787f96622be8c9c6c9ec9e388869e56d", func := "multikernel/multikernellaw10.RangeCovered", spec := "rangeCovered", unfollowed := true, recurses := true, named := ["math/bits.deBruijn32tab", "math/bits.deBruijn64tab"], apart := false, laid := [("math/bits.deBruijn32tab", laid_math_bits_deBruijn32tab), ("math/bits.deBruijn64tab", laid_math_bits_deBruijn64tab)], narrowed := true }
def RangeCoveredUptoSaid : Prop := rangeCoveredUptoRow.holds Tryd.pinned (OpenSpec.upto rangeCoveredSpec)

end Rows
end Go.Proofs.YtlndafkmihdbmaaDoor
