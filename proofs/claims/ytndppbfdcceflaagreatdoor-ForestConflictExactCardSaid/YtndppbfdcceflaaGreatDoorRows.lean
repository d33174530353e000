/-
  NARROWER THAN 'FOR EVERY INPUT', by the rows' own cells (each row's printed sentence says how): ForestValidExact: laid · ForestQueriesExact: laid · ForestChangesExact: laid · ForestConflictExact: laid · ForestStaysValid: laid · ForestGrows: laid · ForestReparents: laid · ForestTransitive: laid · ForestInsertRemove: laid · ForestClaims: laid.
  DERIVED. THE GIVEN ROWS OF THIS SEAT. 10 by the template 'for every input the law returns true; each argument reads behind the call as it read before'; 0 by the template 'total and deterministic' (their statements: YtndppbfdcceflaaGreatDoorTotals.lean).
  GIVEN WITH THE SEED: the statements are not yours to turn. If you find one false, say at which input.
  Laid BY PROGRAM, IN A SANDBOX (cutbox-rows.mjs): the forced cells as the released guide's own fill.sh prints them over the translation c2c22c37ab186fd3… (all of the seat's roots in one cut). By AI agents, Wed Nov 11 2026. No macro, syntax, notation, axiom, sorry.
-/
import Derived.Test.YtndppbfdcceflaaGreatDoorChecked
import GoSem.Claim
import GoSem.ClaimJoined
import GoSem.ClaimMapViews
import Derived.JoinedTies
import Derived.KernelRfl
namespace Go.Proofs.YtndppbfdcceflaaGreatDoor
/- THE CELL 'sum', in the pinned program and in every row, IS THE sha256 OF THE DUMP (.gsa) THAT YtndppbfdcceflaaGreatDoorProg.lean LOADS. Nothing in Lean hashes anything: it is a label: what it is worth is what the hold of that sum in a sandbox is worth. -/
noncomputable def Tryz.pinned : Pinned := { name := "ytndppbfdcceflaagreatdoor", sum := "c2c22c37ab186fd3bc96f53771263dcb073c6d5120da9db00ac371616b1e44e8", checked := Tryz.checked }
namespace Rows
def none {H : Type} : Left H := { results := [], args := [] }

/- WHAT THE LISTED PACKAGE-LEVEL VARIABLES READ AS WHEN THE CALL BEGINS. Each datum BY PROGRAM (the guide's laid-datum.mjs) off the statement by which the dump's own 'gosem.cut.vars' lays the variable. In a bare row this is a premise. The card (YtndppbfdcceflaaGreatDoorCards.lean) ties it to the program's text. -/
def laid_math_bits_deBruijn32tab {H : Type} : DataW H := .agg [.lit (.int .u8 0), .lit (.int .u8 1), .lit (.int .u8 28), .lit (.int .u8 2), .lit (.int .u8 29), .lit (.int .u8 14), .lit (.int .u8 24), .lit (.int .u8 3), .lit (.int .u8 30), .lit (.int .u8 22), .lit (.int .u8 20), .lit (.int .u8 15), .lit (.int .u8 25), .lit (.int .u8 17), .lit (.int .u8 4), .lit (.int .u8 8), .lit (.int .u8 31), .lit (.int .u8 27), .lit (.int .u8 13), .lit (.int .u8 23), .lit (.int .u8 21), .lit (.int .u8 19), .lit (.int .u8 16), .lit (.int .u8 7), .lit (.int .u8 26), .lit (.int .u8 12), .lit (.int .u8 18), .lit (.int .u8 6), .lit (.int .u8 11), .lit (.int .u8 5), .lit (.int .u8 10), .lit (.int .u8 9)]
def laid_math_bits_deBruijn64tab {H : Type} : DataW H := .agg [.lit (.int .u8 0), .lit (.int .u8 1), .lit (.int .u8 56), .lit (.int .u8 2), .lit (.int .u8 57), .lit (.int .u8 49), .lit (.int .u8 28), .lit (.int .u8 3), .lit (.int .u8 61), .lit (.int .u8 58), .lit (.int .u8 42), .lit (.int .u8 50), .lit (.int .u8 38), .lit (.int .u8 29), .lit (.int .u8 17), .lit (.int .u8 4), .lit (.int .u8 62), .lit (.int .u8 47), .lit (.int .u8 59), .lit (.int .u8 36), .lit (.int .u8 45), .lit (.int .u8 43), .lit (.int .u8 51), .lit (.int .u8 22), .lit (.int .u8 53), .lit (.int .u8 39), .lit (.int .u8 33), .lit (.int .u8 30), .lit (.int .u8 24), .lit (.int .u8 18), .lit (.int .u8 12), .lit (.int .u8 5), .lit (.int .u8 63), .lit (.int .u8 55), .lit (.int .u8 48), .lit (.int .u8 27), .lit (.int .u8 60), .lit (.int .u8 41), .lit (.int .u8 37), .lit (.int .u8 16), .lit (.int .u8 46), .lit (.int .u8 35), .lit (.int .u8 44), .lit (.int .u8 21), .lit (.int .u8 52), .lit (.int .u8 32), .lit (.int .u8 23), .lit (.int .u8 11), .lit (.int .u8 54), .lit (.int .u8 26), .lit (.int .u8 40), .lit (.int .u8 15), .lit (.int .u8 34), .lit (.int .u8 20), .lit (.int .u8 31), .lit (.int .u8 10), .lit (.int .u8 25), .lit (.int .u8 14), .lit (.int .u8 19), .lit (.int .u8 9), .lit (.int .u8 13), .lit (.int .u8 8), .lit (.int .u8 7), .lit (.int .u8 6)]

/-- 'multikernellaw13.ForestValidExact': WHATEVER THE INPUT: true; the input reads as it did. -/
def forestValidExactSpec : ChangeSpec := { name := "forestValidExact", fn := fun _ => fun
  | [d1, d2, d3, d4] => { results := [.lit (.bool true)], args := [d1, d2, d3, d4] }
  | _ => none }
def forestValidExactRow : OpenClaim := { program := "ytndppbfdcceflaagreatdoor", sum := "c2c22c37ab186fd3bc96f53771263dcb073c6d5120da9db00ac371616b1e44e8", func := "multikernel/multikernellaw13.ForestValidExact", spec := "forestValidExact", unfollowed := true, recurses := true, named := ["math/bits.deBruijn32tab", "math/bits.deBruijn64tab"], plainKeys := false, apart := false, laid := [("math/bits.deBruijn32tab", laid_math_bits_deBruijn32tab), ("math/bits.deBruijn64tab", laid_math_bits_deBruijn64tab)] }
def ForestValidExactSaid : Prop := forestValidExactRow.holds Tryz.pinned (OpenSpec.ofChange forestValidExactSpec)

/-- ITS FALSE NEIGHBOUR: 'it returns false'. Refute it at one input. -/
def forestValidExactWrong : ChangeSpec := { name := "forestValidExact", fn := fun _ => fun
  | [d1, d2, d3, d4] => { results := [.lit (.bool false)], args := [d1, d2, d3, d4] }
  | _ => none }
def ForestValidExactWrongFalsely : Prop := forestValidExactRow.holds Tryz.pinned (OpenSpec.ofChange forestValidExactWrong)

/-- 'multikernellaw13.ForestQueriesExact': WHATEVER THE INPUT: true; the input reads as it did. -/
def forestQueriesExactSpec : ChangeSpec := { name := "forestQueriesExact", fn := fun _ => fun
  | [d1, d2, d3, d4] => { results := [.lit (.bool true)], args := [d1, d2, d3, d4] }
  | _ => none }
def forestQueriesExactRow : OpenClaim := { program := "ytndppbfdcceflaagreatdoor", sum := "c2c22c37ab186fd3bc96f53771263dcb073c6d5120da9db00ac371616b1e44e8", func := "multikernel/multikernellaw13.ForestQueriesExact", spec := "forestQueriesExact", unfollowed := true, recurses := true, named := ["math/bits.deBruijn32tab", "math/bits.deBruijn64tab"], plainKeys := false, apart := false, laid := [("math/bits.deBruijn32tab", laid_math_bits_deBruijn32tab), ("math/bits.deBruijn64tab", laid_math_bits_deBruijn64tab)] }
def ForestQueriesExactSaid : Prop := forestQueriesExactRow.holds Tryz.pinned (OpenSpec.ofChange forestQueriesExactSpec)

/-- ITS FALSE NEIGHBOUR: 'it returns false'. Refute it at one input. -/
def forestQueriesExactWrong : ChangeSpec := { name := "forestQueriesExact", fn := fun _ => fun
  | [d1, d2, d3, d4] => { results := [.lit (.bool false)], args := [d1, d2, d3, d4] }
  | _ => none }
def ForestQueriesExactWrongFalsely : Prop := forestQueriesExactRow.holds Tryz.pinned (OpenSpec.ofChange forestQueriesExactWrong)

/-- 'multikernellaw13.ForestChangesExact': WHATEVER THE INPUT: true; the input reads as it did. -/
def forestChangesExactSpec : ChangeSpec := { name := "forestChangesExact", fn := fun _ => fun
  | [d1, d2, d3, d4] => { results := [.lit (.bool true)], args := [d1, d2, d3, d4] }
  | _ => none }
def forestChangesExactRow : OpenClaim := { program := "ytndppbfdcceflaagreatdoor", sum := "c2c22c37ab186fd3bc96f53771263dcb073c6d5120da9db00ac371616b1e44e8", func := "multikernel/multikernellaw13.ForestChangesExact", spec := "forestChangesExact", unfollowed := true, recurses := true, named := ["math/bits.deBruijn32tab", "math/bits.deBruijn64tab"], plainKeys := false, apart := false, laid := [("math/bits.deBruijn32tab", laid_math_bits_deBruijn32tab), ("math/bits.deBruijn64tab", laid_math_bits_deBruijn64tab)] }
def ForestChangesExactSaid : Prop := forestChangesExactRow.holds Tryz.pinned (OpenSpec.ofChange forestChangesExactSpec)

/-- ITS FALSE NEIGHBOUR: 'it returns false'. Refute it at one input. -/
def forestChangesExactWrong : ChangeSpec := { name := "forestChangesExact", fn := fun _ => fun
  | [d1, d2, d3, d4] => { results := [.lit (.bool false)], args := [d1, d2, d3, d4] }
  | _ => none }
def ForestChangesExactWrongFalsely : Prop := forestChangesExactRow.holds Tryz.pinned (OpenSpec.ofChange forestChangesExactWrong)

/-- 'multikernellaw13.ForestConflictExact': WHATEVER THE INPUT: true; the input reads as it did. -/
def forestConflictExactSpec : ChangeSpec := { name := "forestConflictExact", fn := fun _ => fun
  | [d1, d2, d3, d4] => { results := [.lit (.bool true)], args := [d1, d2, d3, d4] }
  | _ => none }
def forestConflictExactRow : OpenClaim := { program := "ytndppbfdcceflaagreatdoor", sum := "c2c22c37ab186fd3bc96f53771263dcb073c6d5120da9db00ac371616b1e44e8", func := "multikernel/multikernellaw13.ForestConflictExact", spec := "forestConflictExact", unfollowed := true, recurses := true, named := ["math/bits.deBruijn32tab", "math/bits.deBruijn64tab"], plainKeys := false, apart := false, laid := [("math/bits.deBruijn32tab", laid_math_bits_deBruijn32tab), ("math/bits.deBruijn64tab", laid_math_bits_deBruijn64tab)] }
def ForestConflictExactSaid : Prop := forestConflictExactRow.holds Tryz.pinned (OpenSpec.ofChange forestConflictExactSpec)

/-- ITS FALSE NEIGHBOUR: 'it returns false'. Refute it at one input. -/
def forestConflictExactWrong : ChangeSpec := { name := "forestConflictExact", fn := fun _ => fun
  | [d1, d2, d3, d4] => { results := [.lit (.bool false)], args := [d1, d2, d3, d4] }
  | _ => none }
def ForestConflictExactWrongFalsely : Prop := forestConflictExactRow.holds Tryz.pinned (OpenSpec.ofChange forestConflictExactWrong)

/-- 'multikernellaw13.ForestStaysValid': WHATEVER THE INPUT: true; the input reads as it did. -/
def forestStaysValidSpec : ChangeSpec := { name := "forestStaysValid", fn := fun _ => fun
  | [d1, d2, d3] => { results := [.lit (.bool true)], args := [d1, d2, d3] }
  | _ => none }
def forestStaysValidRow : OpenClaim := { program := "ytndppbfdcceflaagreatdoor", sum := "c2c22c37ab186fd3bc96f53771263dcb073c6d5120da9db00ac371616b1e44e8", func := "multikernel/multikernellaw13.ForestStaysValid", spec := "forestStaysValid", unfollowed := true, recurses := true, named := ["math/bits.deBruijn32tab", "math/bits.deBruijn64tab"], plainKeys := false, apart := false, laid := [("math/bits.deBruijn32tab", laid_math_bits_deBruijn32tab), ("math/bits.deBruijn64tab", laid_math_bits_deBruijn64tab)] }
def ForestStaysValidSaid : Prop := forestStaysValidRow.holds Tryz.pinned (OpenSpec.ofChange forestStaysValidSpec)

/-- ITS FALSE NEIGHBOUR: 'it returns false'. Refute it at one input. -/
def forestStaysValidWrong : ChangeSpec := { name := "forestStaysValid", fn := fun _ => fun
  | [d1, d2, d3] => { results := [.lit (.bool false)], args := [d1, d2, d3] }
  | _ => none }
def ForestStaysValidWrongFalsely : Prop := forestStaysValidRow.holds Tryz.pinned (OpenSpec.ofChange forestStaysValidWrong)

/-- 'multikernellaw13.ForestGrows': WHATEVER THE INPUT: true; the input reads as it did. -/
def forestGrowsSpec : ChangeSpec := { name := "forestGrows", fn := fun _ => fun
  | [d1, d2, d3, d4, d5] => { results := [.lit (.bool true)], args := [d1, d2, d3, d4, d5] }
  | _ => none }
def forestGrowsRow : OpenClaim := { program := "ytndppbfdcceflaagreatdoor", sum := "c2c22c37ab186fd3bc96f53771263dcb073c6d5120da9db00ac371616b1e44e8", func := "multikernel/multikernellaw13.ForestGrows", spec := "forestGrows", unfollowed := true, recurses := true, named := ["math/bits.deBruijn32tab", "math/bits.deBruijn64tab"], plainKeys := false, apart := false, laid := [("math/bits.deBruijn32tab", laid_math_bits_deBruijn32tab), ("math/bits.deBruijn64tab", laid_math_bits_deBruijn64tab)] }
def ForestGrowsSaid : Prop := forestGrowsRow.holds Tryz.pinned (OpenSpec.ofChange forestGrowsSpec)

/-- ITS FALSE NEIGHBOUR: 'it returns false'. Refute it at one input. -/
def forestGrowsWrong : ChangeSpec := { name := "forestGrows", fn := fun _ => fun
  | [d1, d2, d3, d4, d5] => { results := [.lit (.bool false)], args := [d1, d2, d3, d4, d5] }
  | _ => none }
def ForestGrowsWrongFalsely : Prop := forestGrowsRow.holds Tryz.pinned (OpenSpec.ofChange forestGrowsWrong)

/-- 'multikernellaw13.ForestReparents': WHATEVER THE INPUT: true; the input reads as it did. -/
def forestReparentsSpec : ChangeSpec := { name := "forestReparents", fn := fun _ => fun
  | [d1, d2] => { results := [.lit (.bool true)], args := [d1, d2] }
  | _ => none }
def forestReparentsRow : OpenClaim := { program := "ytndppbfdcceflaagreatdoor", sum := "c2c22c37ab186fd3bc96f53771263dcb073c6d5120da9db00ac371616b1e44e8", func := "multikernel/multikernellaw13.ForestReparents", spec := "forestReparents", unfollowed := true, recurses := true, named := ["math/bits.deBruijn32tab", "math/bits.deBruijn64tab"], plainKeys := false, apart := false, laid := [("math/bits.deBruijn32tab", laid_math_bits_deBruijn32tab), ("math/bits.deBruijn64tab", laid_math_bits_deBruijn64tab)] }
def ForestReparentsSaid : Prop := forestReparentsRow.holds Tryz.pinned (OpenSpec.ofChange forestReparentsSpec)

/-- ITS FALSE NEIGHBOUR: 'it returns false'. Refute it at one input. -/
def forestReparentsWrong : ChangeSpec := { name := "forestReparents", fn := fun _ => fun
  | [d1, d2] => { results := [.lit (.bool false)], args := [d1, d2] }
  | _ => none }
def ForestReparentsWrongFalsely : Prop := forestReparentsRow.holds Tryz.pinned (OpenSpec.ofChange forestReparentsWrong)

/-- 'multikernellaw13.ForestTransitive': WHATEVER THE INPUT: true; the input reads as it did. -/
def forestTransitiveSpec : ChangeSpec := { name := "forestTransitive", fn := fun _ => fun
  | [d1, d2] => { results := [.lit (.bool true)], args := [d1, d2] }
  | _ => none }
def forestTransitiveRow : OpenClaim := { program := "ytndppbfdcceflaagreatdoor", sum := "c2c22c37ab186fd3bc96f53771263dcb073c6d5120da9db00ac371616b1e44e8", func := "multikernel/multikernellaw13.ForestTransitive", spec := "forestTransitive", unfollowed := true, recurses := true, named := ["math/bits.deBruijn32tab", "math/bits.deBruijn64tab"], plainKeys := false, apart := false, laid := [("math/bits.deBruijn32tab", laid_math_bits_deBruijn32tab), ("math/bits.deBruijn64tab", laid_math_bits_deBruijn64tab)] }
def ForestTransitiveSaid : Prop := forestTransitiveRow.holds Tryz.pinned (OpenSpec.ofChange forestTransitiveSpec)

/-- ITS FALSE NEIGHBOUR: 'it returns false'. Refute it at one input. -/
def forestTransitiveWrong : ChangeSpec := { name := "forestTransitive", fn := fun _ => fun
  | [d1, d2] => { results := [.lit (.bool false)], args := [d1, d2] }
  | _ => none }
def ForestTransitiveWrongFalsely : Prop := forestTransitiveRow.holds Tryz.pinned (OpenSpec.ofChange forestTransitiveWrong)

/-- 'multikernellaw13.ForestInsertRemove': WHATEVER THE INPUT: true; the input reads as it did. -/
def forestInsertRemoveSpec : ChangeSpec := { name := "forestInsertRemove", fn := fun _ => fun
  | [d1, d2, d3, d4, d5] => { results := [.lit (.bool true)], args := [d1, d2, d3, d4, d5] }
  | _ => none }
def forestInsertRemoveRow : OpenClaim := { program := "ytndppbfdcceflaagreatdoor", sum := "c2c22c37ab186fd3bc96f53771263dcb073c6d5120da9db00ac371616b1e44e8", func := "multikernel/multikernellaw13.ForestInsertRemove", spec := "forestInsertRemove", unfollowed := true, recurses := true, named := ["math/bits.deBruijn32tab", "math/bits.deBruijn64tab"], plainKeys := false, apart := false, laid := [("math/bits.deBruijn32tab", laid_math_bits_deBruijn32tab), ("math/bits.deBruijn64tab", laid_math_bits_deBruijn64tab)] }
def ForestInsertRemoveSaid : Prop := forestInsertRemoveRow.holds Tryz.pinned (OpenSpec.ofChange forestInsertRemoveSpec)

/-- ITS FALSE NEIGHBOUR: 'it returns false'. Refute it at one input. -/
def forestInsertRemoveWrong : ChangeSpec := { name := "forestInsertRemove", fn := fun _ => fun
  | [d1, d2, d3, d4, d5] => { results := [.lit (.bool false)], args := [d1, d2, d3, d4, d5] }
  | _ => none }
def ForestInsertRemoveWrongFalsely : Prop := forestInsertRemoveRow.holds Tryz.pinned (OpenSpec.ofChange forestInsertRemoveWrong)

/-- 'multikernellaw13.ForestClaims': WHATEVER THE INPUT: true; the input reads as it did. -/
def forestClaimsSpec : ChangeSpec := { name := "forestClaims", fn := fun _ => fun
  | [d1, d2, d3] => { results := [.lit (.bool true)], args := [d1, d2, d3] }
  | _ => none }
def forestClaimsRow : OpenClaim := { program := "ytndppbfdcceflaagreatdoor", sum := "c2c22c37ab186fd3bc96f53771263dcb073c6d5120da9db00ac371616b1e44e8", func := "multikernel/multikernellaw13.ForestClaims", spec := "forestClaims", unfollowed := true, recurses := true, named := ["math/bits.deBruijn32tab", "math/bits.deBruijn64tab"], plainKeys := false, apart := false, laid := [("math/bits.deBruijn32tab", laid_math_bits_deBruijn32tab), ("math/bits.deBruijn64tab", laid_math_bits_deBruijn64tab)] }
def ForestClaimsSaid : Prop := forestClaimsRow.holds Tryz.pinned (OpenSpec.ofChange forestClaimsSpec)

/-- ITS FALSE NEIGHBOUR: 'it returns false'. Refute it at one input. -/
def forestClaimsWrong : ChangeSpec := { name := "forestClaims", fn := fun _ => fun
  | [d1, d2, d3] => { results := [.lit (.bool false)], args := [d1, d2, d3] }
  | _ => none }
def ForestClaimsWrongFalsely : Prop := forestClaimsRow.holds Tryz.pinned (OpenSpec.ofChange forestClaimsWrong)

/- THE SECOND FORM. 'bulk': how many values and letters a reading holds, each counted each time it is reached (what is shared counts as often as it is met; a slice's spare places count too). A statement '..UptoSaid' is the law's where the arguments, and the package variables that the reading takes, are together of bulk at most 1048576: NARROWER than '..Said'. Prove '..Said' where nothing that the law and all that it calls make is longer than what came in: it says more and counts as full. Else prove '..UptoSaid'. A law counts once. -/
mutual
def uptoBulk {H : Type} : DataW H → Nat
  | .lit (.string bytes) => bytes.length + 1
  | .lit _ => 1
  | .nil => 1
  | .ptr d => uptoBulk d + 1
  | .slice elems spare => uptoBulkAll elems + uptoBulkAll spare + 1
  | .agg parts => uptoBulkAll parts + 1
  | .iface _ d => uptoBulk d + 1
  | .map entries => uptoBulkEntries entries + 1
  | .held _ => 1
def uptoBulkAll {H : Type} : List (DataW H) → Nat
  | [] => 0
  | d :: r => uptoBulk d + uptoBulkAll r
def uptoBulkEntries {H : Type} : List (Lit × DataW H) → Nat
  | [] => 0
  | x :: r => uptoBulkEntry x + uptoBulkEntries r
def uptoBulkEntry {H : Type} : Lit × DataW H → Nat
  | (.string bytes, d) => bytes.length + uptoBulk d + 1
  | (_, d) => uptoBulk d + 1
 end
def uptoSmall : (H : Type) → List (DataW H) → Bool := fun _ ds => decide (uptoBulkAll ds ≤ 1048576)
def OpenSpec.upto (s : _root_.Go.ChangeSpec) : _root_.Go.OpenSpec := { _root_.Go.OpenSpec.ofChange s with cond := some uptoSmall }

/-- 'multikernellaw13.ForestValidExact', WHERE WHAT IT READS IS OF BULK AT MOST 1048576: true; the input reads as it did. -/
def forestValidExactUptoRow : OpenClaim := { program := "ytndppbfdcceflaagreatdoor", sum := "c2c22c37ab186fd3bc96f53771263dcb073c6d5120da9db00ac371616b1e44e8", func := "multikernel/multikernellaw13.ForestValidExact", spec := "forestValidExact", unfollowed := true, recurses := true, named := ["math/bits.deBruijn32tab", "math/bits.deBruijn64tab"], plainKeys := false, apart := false, laid := [("math/bits.deBruijn32tab", laid_math_bits_deBruijn32tab), ("math/bits.deBruijn64tab", laid_math_bits_deBruijn64tab)], narrowed := true }
def ForestValidExactUptoSaid : Prop := forestValidExactUptoRow.holds Tryz.pinned (OpenSpec.upto forestValidExactSpec)

/-- 'multikernellaw13.ForestQueriesExact', WHERE WHAT IT READS IS OF BULK AT MOST 1048576: true; the input reads as it did. -/
def forestQueriesExactUptoRow : OpenClaim := { program := "ytndppbfdcceflaagreatdoor", sum := "c2c22c37ab186fd3bc96f53771263dcb073c6d5120da9db00ac371616b1e44e8", func := "multikernel/multikernellaw13.ForestQueriesExact", spec := "forestQueriesExact", unfollowed := true, recurses := true, named := ["math/bits.deBruijn32tab", "math/bits.deBruijn64tab"], plainKeys := false, apart := false, laid := [("math/bits.deBruijn32tab", laid_math_bits_deBruijn32tab), ("math/bits.deBruijn64tab", laid_math_bits_deBruijn64tab)], narrowed := true }
def ForestQueriesExactUptoSaid : Prop := forestQueriesExactUptoRow.holds Tryz.pinned (OpenSpec.upto forestQueriesExactSpec)

/-- 'multikernellaw13.ForestChangesExact', WHERE WHAT IT READS IS OF BULK AT MOST 1048576: true; the input reads as it did. -/
def forestChangesExactUptoRow : OpenClaim := { program := "ytndppbfdcceflaagreatdoor", sum := "c2c22c37ab186fd3bc96f53771263dcb073c6d5120da9db00ac371616b1e44e8", func := "multikernel/multikernellaw13.ForestChangesExact", spec := "forestChangesExact", unfollowed := true, recurses := true, named := ["math/bits.deBruijn32tab", "math/bits.deBruijn64tab"], plainKeys := false, apart := false, laid := [("math/bits.deBruijn32tab", laid_math_bits_deBruijn32tab), ("math/bits.deBruijn64tab", laid_math_bits_deBruijn64tab)], narrowed := true }
def ForestChangesExactUptoSaid : Prop := forestChangesExactUptoRow.holds Tryz.pinned (OpenSpec.upto forestChangesExactSpec)

/-- 'multikernellaw13.ForestConflictExact', WHERE WHAT IT READS IS OF BULK AT MOST 1048576: true; the input reads as it did. -/
def forestConflictExactUptoRow : OpenClaim := { program := "ytndppbfdcceflaagreatdoor", sum := "c2c22c37ab186fd3bc96f53771263dcb073c6d5120da9db00ac371616b1e44e8", func := "multikernel/multikernellaw13.ForestConflictExact", spec := "forestConflictExact", unfollowed := true, recurses := true, named := ["math/bits.deBruijn32tab", "math/bits.deBruijn64tab"], plainKeys := false, apart := false, laid := [("math/bits.deBruijn32tab", laid_math_bits_deBruijn32tab), ("math/bits.deBruijn64tab", laid_math_bits_deBruijn64tab)], narrowed := true }
def ForestConflictExactUptoSaid : Prop := forestConflictExactUptoRow.holds Tryz.pinned (OpenSpec.upto forestConflictExactSpec)

/-- 'multikernellaw13.ForestStaysValid', WHERE WHAT IT READS IS OF BULK AT MOST 1048576: true; the input reads as it did. -/
def forestStaysValidUptoRow : OpenClaim := { program := "ytndppbfdcceflaagreatdoor", sum := "c2c22c37ab186fd3bc96f53771263dcb073c6d5120da9db00ac371616b1e44e8", func := "multikernel/multikernellaw13.ForestStaysValid", spec := "forestStaysValid", unfollowed := true, recurses := true, named := ["math/bits.deBruijn32tab", "math/bits.deBruijn64tab"], plainKeys := false, apart := false, laid := [("math/bits.deBruijn32tab", laid_math_bits_deBruijn32tab), ("math/bits.deBruijn64tab", laid_math_bits_deBruijn64tab)], narrowed := true }
def ForestStaysValidUptoSaid : Prop := forestStaysValidUptoRow.holds Tryz.pinned (OpenSpec.upto forestStaysValidSpec)

/-- 'multikernellaw13.ForestGrows', WHERE WHAT IT READS IS OF BULK AT MOST 1048576: true; the input reads as it did. -/
def forestGrowsUptoRow : OpenClaim := { program := "ytndppbfdcceflaagreatdoor", sum := "c2c22c37ab186fd3bc96f53771263dcb073c6d5120da9db00ac371616b1e44e8", func := "multikernel/multikernellaw13.ForestGrows", spec := "forestGrows", unfollowed := true, recurses := true, named := ["math/bits.deBruijn32tab", "math/bits.deBruijn64tab"], plainKeys := false, apart := false, laid := [("math/bits.deBruijn32tab", laid_math_bits_deBruijn32tab), ("math/bits.deBruijn64tab", laid_math_bits_deBruijn64tab)], narrowed := true }
def ForestGrowsUptoSaid : Prop := forestGrowsUptoRow.holds Tryz.pinned (OpenSpec.upto forestGrowsSpec)

/-- 'multikernellaw13.ForestReparents', WHERE WHAT IT READS IS OF BULK AT MOST 1048576: true; the input reads as it did. -/
def forestReparentsUptoRow : OpenClaim := { program := "ytndppbfdcceflaagreatdoor", sum := "c2c22c37ab186fd3bc96f53771263dcb073c6d5120da9db00ac371616b1e44e8", func := "multikernel/multikernellaw13.ForestReparents", spec := "forestReparents", unfollowed := true, recurses := true, named := ["math/bits.deBruijn32tab", "math/bits.deBruijn64tab"], plainKeys := false, apart := false, laid := [("math/bits.deBruijn32tab", laid_math_bits_deBruijn32tab), ("math/bits.deBruijn64tab", laid_math_bits_deBruijn64tab)], narrowed := true }
def ForestReparentsUptoSaid : Prop := forestReparentsUptoRow.holds Tryz.pinned (OpenSpec.upto forestReparentsSpec)

/-- 'multikernellaw13.ForestTransitive', WHERE WHAT IT READS IS OF BULK AT MOST 1048576: true; the input reads as it did. -/
def forestTransitiveUptoRow : OpenClaim := { program := "ytndppbfdcceflaagreatdoor", sum := "c2c22c37ab186fd3bc96f53771263dcb073c6d5120da9db00ac371616b1e44e8", func := "multikernel/multikernellaw13.ForestTransitive", spec := "forestTransitive", unfollowed := true, recurses := true, named := ["math/bits.deBruijn32tab", "math/bits.deBruijn64tab"], plainKeys := false, apart := false, laid := [("math/bits.deBruijn32tab", laid_math_bits_deBruijn32tab), ("math/bits.deBruijn64tab", laid_math_bits_deBruijn64tab)], narrowed := true }
def ForestTransitiveUptoSaid : Prop := forestTransitiveUptoRow.holds Tryz.pinned (OpenSpec.upto forestTransitiveSpec)

/-- 'multikernellaw13.ForestInsertRemove', WHERE WHAT IT READS IS OF BULK AT MOST 1048576: true; the input reads as it did. -/
def forestInsertRemoveUptoRow : OpenClaim := { program := "ytndppbfdcceflaagreatdoor", sum := "c2c22c37ab186fd3bc96f53771263dcb073c6d5120da9db00ac371616b1e44e8", func := "multikernel/multikernellaw13.ForestInsertRemove", spec := "forestInsertRemove", unfollowed := true, recurses := true, named := ["math/bits.deBruijn32tab", "math/bits.deBruijn64tab"], plainKeys := false, apart := false, laid := [("math/bits.deBruijn32tab", laid_math_bits_deBruijn32tab), ("math/bits.deBruijn64tab", laid_math_bits_deBruijn64tab)], narrowed := true }
def ForestInsertRemoveUptoSaid : Prop := forestInsertRemoveUptoRow.holds Tryz.pinned (OpenSpec.upto forestInsertRemoveSpec)

/-- 'multikernellaw13.ForestClaims', WHERE WHAT IT READS IS OF BULK AT MOST 1048576: true; the input reads as it did. -/
def forestClaimsUptoRow : OpenClaim := { program := "ytndppbfdcceflaagreatdoor", sum := "c2c22c37ab186fd3bc96f53771263dcb073c6d5120da9db00ac371616b1e44e8", func := "multikernel/multikernellaw13.ForestClaims", spec := "forestClaims", unfollowed := true, recurses := true, named := ["math/bits.deBruijn32tab", "math/bits.deBruijn64tab"], plainKeys := false, apart := false, laid := [("math/bits.deBruijn32tab", laid_math_bits_deBruijn32tab), ("math/bits.deBruijn64tab", laid_math_bits_deBruijn64tab)], narrowed := true }
def ForestClaimsUptoSaid : Prop := forestClaimsUptoRow.holds Tryz.pinned (OpenSpec.upto forestClaimsSpec)

end Rows
end Go.Proofs.YtndppbfdcceflaaGreatDoor
