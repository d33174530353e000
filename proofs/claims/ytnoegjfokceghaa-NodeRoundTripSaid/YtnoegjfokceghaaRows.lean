/-
  No cell of these rows narrows 'for every input' (looked for: loops, veiled, ifaces, maps, wideKeys, modest, calm, conditions, laid).
  DERIVED. THE GIVEN ROWS OF THIS SEAT. 8 by the template 'for every input the law returns true; each argument reads behind the call as it read before'; 0 by the template 'total and deterministic' (their statements: YtnoegjfokceghaaTotals.lean).
  GIVEN WITH THE SEED: the statements are not yours to turn. If you find one false, say at which input.
  Laid BY PROGRAM, IN A SANDBOX (cutbox-rows.mjs): the forced cells as the released guide's own fill.sh prints them over the translation a4891268f14234e6… (all of the seat's roots in one cut). By AI agents, Wed Nov 11 2026. No macro, syntax, notation, axiom, sorry.
-/
import Derived.Test.YtnoegjfokceghaaChecked
import GoSem.Claim
import GoSem.ClaimJoined
import GoSem.ClaimMapViews
import Derived.JoinedTies
import Derived.KernelRfl
namespace Go.Proofs.Ytnoegjfokceghaa
/- THE CELL 'sum', in the pinned program and in every row, IS THE sha256 OF THE DUMP (.gsa) THAT YtnoegjfokceghaaProg.lean LOADS. Nothing in Lean hashes anything: it is a label: what it is worth is what the hold of that sum in a sandbox is worth. -/
noncomputable def Try.pinned : Pinned := { name := "ytnoegjfokceghaa", sum := "a4891268f14234e621568b52ad80d063aa1cd618e886529113e4e4173c98eb8c", checked := Try.checked }
namespace Rows
def none {H : Type} : Left H := { results := [], args := [] }

/-- 'multikernellaw12.NodeExact': WHATEVER THE INPUT: true; the input reads as it did. -/
def nodeExactSpec : ChangeSpec := { name := "nodeExact", fn := fun _ => fun
  | [d1, d2, d3, d4, d5] => { results := [.lit (.bool true)], args := [d1, d2, d3, d4, d5] }
  | _ => none }
def nodeExactRow : OpenClaim := { program := "ytnoegjfokceghaa", sum := "a4891268f14234e621568b52ad80d063aa1cd618e886529113e4e4173c98eb8c", func := "multikernel/multikernellaw12.NodeExact", spec := "nodeExact", unfollowed := true, recurses := true, apart := false }
def NodeExactSaid : Prop := nodeExactRow.holds Try.pinned (OpenSpec.ofChange nodeExactSpec)

/-- ITS FALSE NEIGHBOUR: 'it returns false'. Refute it at one input. -/
def nodeExactWrong : ChangeSpec := { name := "nodeExact", fn := fun _ => fun
  | [d1, d2, d3, d4, d5] => { results := [.lit (.bool false)], args := [d1, d2, d3, d4, d5] }
  | _ => none }
def NodeExactWrongFalsely : Prop := nodeExactRow.holds Try.pinned (OpenSpec.ofChange nodeExactWrong)

/-- 'multikernellaw12.NodeChildExact': WHATEVER THE INPUT: true; the input reads as it did. -/
def nodeChildExactSpec : ChangeSpec := { name := "nodeChildExact", fn := fun _ => fun
  | [d1, d2, d3] => { results := [.lit (.bool true)], args := [d1, d2, d3] }
  | _ => none }
def nodeChildExactRow : OpenClaim := { program := "ytnoegjfokceghaa", sum := "a4891268f14234e621568b52ad80d063aa1cd618e886529113e4e4173c98eb8c", func := "multikernel/multikernellaw12.NodeChildExact", spec := "nodeChildExact", apart := false }
def NodeChildExactSaid : Prop := nodeChildExactRow.holds Try.pinned (OpenSpec.ofChange nodeChildExactSpec)

/-- ITS FALSE NEIGHBOUR: 'it returns false'. Refute it at one input. -/
def nodeChildExactWrong : ChangeSpec := { name := "nodeChildExact", fn := fun _ => fun
  | [d1, d2, d3] => { results := [.lit (.bool false)], args := [d1, d2, d3] }
  | _ => none }
def NodeChildExactWrongFalsely : Prop := nodeChildExactRow.holds Try.pinned (OpenSpec.ofChange nodeChildExactWrong)

/-- 'multikernellaw12.NodeCodecExact': WHATEVER THE INPUT: true; the input reads as it did. -/
def nodeCodecExactSpec : ChangeSpec := { name := "nodeCodecExact", fn := fun _ => fun
  | [d1, d2] => { results := [.lit (.bool true)], args := [d1, d2] }
  | _ => none }
def nodeCodecExactRow : OpenClaim := { program := "ytnoegjfokceghaa", sum := "a4891268f14234e621568b52ad80d063aa1cd618e886529113e4e4173c98eb8c", func := "multikernel/multikernellaw12.NodeCodecExact", spec := "nodeCodecExact", apart := false }
def NodeCodecExactSaid : Prop := nodeCodecExactRow.holds Try.pinned (OpenSpec.ofChange nodeCodecExactSpec)

/-- ITS FALSE NEIGHBOUR: 'it returns false'. Refute it at one input. -/
def nodeCodecExactWrong : ChangeSpec := { name := "nodeCodecExact", fn := fun _ => fun
  | [d1, d2] => { results := [.lit (.bool false)], args := [d1, d2] }
  | _ => none }
def NodeCodecExactWrongFalsely : Prop := nodeCodecExactRow.holds Try.pinned (OpenSpec.ofChange nodeCodecExactWrong)

/-- 'multikernellaw12.NodeRoundTrip': WHATEVER THE INPUT: true; the input reads as it did. -/
def nodeRoundTripSpec : ChangeSpec := { name := "nodeRoundTrip", fn := fun _ => fun
  | [d1, d2, d3, d4, d5, d6, d7, d8] => { results := [.lit (.bool true)], args := [d1, d2, d3, d4, d5, d6, d7, d8] }
  | _ => none }
def nodeRoundTripRow : OpenClaim := { program := "ytnoegjfokceghaa", sum := "a4891268f14234e621568b52ad80d063aa1cd618e886529113e4e4173c98eb8c", func := "multikernel/multikernellaw12.NodeRoundTrip", spec := "nodeRoundTrip", apart := false }
def NodeRoundTripSaid : Prop := nodeRoundTripRow.holds Try.pinned (OpenSpec.ofChange nodeRoundTripSpec)

/-- ITS FALSE NEIGHBOUR: 'it returns false'. Refute it at one input. -/
def nodeRoundTripWrong : ChangeSpec := { name := "nodeRoundTrip", fn := fun _ => fun
  | [d1, d2, d3, d4, d5, d6, d7, d8] => { results := [.lit (.bool false)], args := [d1, d2, d3, d4, d5, d6, d7, d8] }
  | _ => none }
def NodeRoundTripWrongFalsely : Prop := nodeRoundTripRow.holds Try.pinned (OpenSpec.ofChange nodeRoundTripWrong)

/-- 'multikernellaw12.NodeOrder': WHATEVER THE INPUT: true; the input reads as it did. -/
def nodeOrderSpec : ChangeSpec := { name := "nodeOrder", fn := fun _ => fun
  | [d1, d2, d3] => { results := [.lit (.bool true)], args := [d1, d2, d3] }
  | _ => none }
def nodeOrderRow : OpenClaim := { program := "ytnoegjfokceghaa", sum := "a4891268f14234e621568b52ad80d063aa1cd618e886529113e4e4173c98eb8c", func := "multikernel/multikernellaw12.NodeOrder", spec := "nodeOrder", apart := false }
def NodeOrderSaid : Prop := nodeOrderRow.holds Try.pinned (OpenSpec.ofChange nodeOrderSpec)

/-- ITS FALSE NEIGHBOUR: 'it returns false'. Refute it at one input. -/
def nodeOrderWrong : ChangeSpec := { name := "nodeOrder", fn := fun _ => fun
  | [d1, d2, d3] => { results := [.lit (.bool false)], args := [d1, d2, d3] }
  | _ => none }
def NodeOrderWrongFalsely : Prop := nodeOrderRow.holds Try.pinned (OpenSpec.ofChange nodeOrderWrong)

/-- 'multikernellaw12.NodeLineage': WHATEVER THE INPUT: true; the input reads as it did. -/
def nodeLineageSpec : ChangeSpec := { name := "nodeLineage", fn := fun _ => fun
  | [d1, d2, d3, d4, d5, d6] => { results := [.lit (.bool true)], args := [d1, d2, d3, d4, d5, d6] }
  | _ => none }
def nodeLineageRow : OpenClaim := { program := "ytnoegjfokceghaa", sum := "a4891268f14234e621568b52ad80d063aa1cd618e886529113e4e4173c98eb8c", func := "multikernel/multikernellaw12.NodeLineage", spec := "nodeLineage", apart := false }
def NodeLineageSaid : Prop := nodeLineageRow.holds Try.pinned (OpenSpec.ofChange nodeLineageSpec)

/-- ITS FALSE NEIGHBOUR: 'it returns false'. Refute it at one input. -/
def nodeLineageWrong : ChangeSpec := { name := "nodeLineage", fn := fun _ => fun
  | [d1, d2, d3, d4, d5, d6] => { results := [.lit (.bool false)], args := [d1, d2, d3, d4, d5, d6] }
  | _ => none }
def NodeLineageWrongFalsely : Prop := nodeLineageRow.holds Try.pinned (OpenSpec.ofChange nodeLineageWrong)

/-- 'multikernellaw12.NodeDepth': WHATEVER THE INPUT: true; the input reads as it did. -/
def nodeDepthSpec : ChangeSpec := { name := "nodeDepth", fn := fun _ => fun
  | [d1, d2] => { results := [.lit (.bool true)], args := [d1, d2] }
  | _ => none }
def nodeDepthRow : OpenClaim := { program := "ytnoegjfokceghaa", sum := "a4891268f14234e621568b52ad80d063aa1cd618e886529113e4e4173c98eb8c", func := "multikernel/multikernellaw12.NodeDepth", spec := "nodeDepth", apart := false }
def NodeDepthSaid : Prop := nodeDepthRow.holds Try.pinned (OpenSpec.ofChange nodeDepthSpec)

/-- ITS FALSE NEIGHBOUR: 'it returns false'. Refute it at one input. -/
def nodeDepthWrong : ChangeSpec := { name := "nodeDepth", fn := fun _ => fun
  | [d1, d2] => { results := [.lit (.bool false)], args := [d1, d2] }
  | _ => none }
def NodeDepthWrongFalsely : Prop := nodeDepthRow.holds Try.pinned (OpenSpec.ofChange nodeDepthWrong)

/-- 'multikernellaw12.NodeParent': WHATEVER THE INPUT: true; the input reads as it did. -/
def nodeParentSpec : ChangeSpec := { name := "nodeParent", fn := fun _ => fun
  | [d1, d2, d3, d4, d5] => { results := [.lit (.bool true)], args := [d1, d2, d3, d4, d5] }
  | _ => none }
def nodeParentRow : OpenClaim := { program := "ytnoegjfokceghaa", sum := "a4891268f14234e621568b52ad80d063aa1cd618e886529113e4e4173c98eb8c", func := "multikernel/multikernellaw12.NodeParent", spec := "nodeParent", unfollowed := true, recurses := true, apart := false }
def NodeParentSaid : Prop := nodeParentRow.holds Try.pinned (OpenSpec.ofChange nodeParentSpec)

/-- ITS FALSE NEIGHBOUR: 'it returns false'. Refute it at one input. -/
def nodeParentWrong : ChangeSpec := { name := "nodeParent", fn := fun _ => fun
  | [d1, d2, d3, d4, d5] => { results := [.lit (.bool false)], args := [d1, d2, d3, d4, d5] }
  | _ => none }
def NodeParentWrongFalsely : Prop := nodeParentRow.holds Try.pinned (OpenSpec.ofChange nodeParentWrong)

/- THE SECOND FORM. 'bulk': how many values and letters a reading holds, each counted each time it is reached (what is shared counts as often as it is met; a slice's spare places count too). A statement '..UptoSaid' is the law's where the arguments, and the package variables that the reading takes, are together of bulk at most 1048576: NARROWER than '..Said'. Prove '..Said' where nothing that the law and all that it calls make is longer than what came in: it says more and counts as full. Else prove '..UptoSaid'. A law counts once. -/
mutual
def uptoBulk {H : Type} : DataW H → Nat
  | .lit (.string bytes) => bytes.length + 1
  | .lit _ => 1
  | .nil => 1
  | .ptr d => uptoBulk d + 1
  | .slice elems spare => uptoBulkAll elems + uptoBulkAll spare + 1
  | .agg parts => uptoBulkAll parts + 1
  | .iface _ d => uptoBulk d + 1
  | .map entries => uptoBulkEntries entries + 1
  | .held _ => 1
def uptoBulkAll {H : Type} : List (DataW H) → Nat
  | [] => 0
  | d :: r => uptoBulk d + uptoBulkAll r
def uptoBulkEntries {H : Type} : List (Lit × DataW H) → Nat
  | [] => 0
  | x :: r => uptoBulkEntry x + uptoBulkEntries r
def uptoBulkEntry {H : Type} : Lit × DataW H → Nat
  | (.string bytes, d) => bytes.length + uptoBulk d + 1
  | (_, d) => uptoBulk d + 1
 end
def uptoSmall : (H : Type) → List (DataW H) → Bool := fun _ ds => decide (uptoBulkAll ds ≤ 1048576)
def OpenSpec.upto (s : _root_.Go.ChangeSpec) : _root_.Go.OpenSpec := { _root_.Go.OpenSpec.ofChange s with cond := some uptoSmall }

/-- 'multikernellaw12.NodeExact', WHERE WHAT IT READS IS OF BULK AT MOST 1048576: true; the input reads as it did. -/
def nodeExactUptoRow : OpenClaim := { program := "ytnoegjfokceghaa", sum := "a4891268f14234e621568b52ad80d063aa1cd618e886529113e4e4173c98eb8c", func := "multikernel/multikernellaw12.NodeExact", spec := "nodeExact", unfollowed := true, recurses := true, apart := false, narrowed := true }
def NodeExactUptoSaid : Prop := nodeExactUptoRow.holds Try.pinned (OpenSpec.upto nodeExactSpec)

/-- 'multikernellaw12.NodeChildExact', WHERE WHAT IT READS IS OF BULK AT MOST 1048576: true; the input reads as it did. -/
def nodeChildExactUptoRow : OpenClaim := { program := "ytnoegjfokceghaa", sum := "a4891268f14234e621568b52ad80d063aa1cd618e886529113e4e4173c98eb8c", func := "multikernel/multikernellaw12.NodeChildExact", spec := "nodeChildExact", apart := false, narrowed := true }
def NodeChildExactUptoSaid : Prop := nodeChildExactUptoRow.holds Try.pinned (OpenSpec.upto nodeChildExactSpec)

/-- 'multikernellaw12.NodeCodecExact', WHERE WHAT IT READS IS OF BULK AT MOST 1048576: true; the input reads as it did. -/
def nodeCodecExactUptoRow : OpenClaim := { program := "ytnoegjfokceghaa", sum := "a4891268f14234e621568b52ad80d063aa1cd618e886529113e4e4173c98eb8c", func := "multikernel/multikernellaw12.NodeCodecExact", spec := "nodeCodecExact", apart := false, narrowed := true }
def NodeCodecExactUptoSaid : Prop := nodeCodecExactUptoRow.holds Try.pinned (OpenSpec.upto nodeCodecExactSpec)

/-- 'multikernellaw12.NodeRoundTrip', WHERE WHAT IT READS IS OF BULK AT MOST 1048576: true; the input reads as it did. -/
def nodeRoundTripUptoRow : OpenClaim := { program := "ytnoegjfokceghaa", sum := "a4891268f14234e621568b52ad80d063aa1cd618e886529113e4e4173c98eb8c", func := "multikernel/multikernellaw12.NodeRoundTrip", spec := "nodeRoundTrip", apart := false, narrowed := true }
def NodeRoundTripUptoSaid : Prop := nodeRoundTripUptoRow.holds Try.pinned (OpenSpec.upto nodeRoundTripSpec)

/-- 'multikernellaw12.NodeOrder', WHERE WHAT IT READS IS OF BULK AT MOST 1048576: true; the input reads as it did. -/
def nodeOrderUptoRow : OpenClaim := { program := "ytnoegjfokceghaa", sum := "a4891268f14234e621568b52ad80d063aa1cd618e886529113e4e4173c98eb8c", func := "multikernel/multikernellaw12.NodeOrder", spec := "nodeOrder", apart := false, narrowed := true }
def NodeOrderUptoSaid : Prop := nodeOrderUptoRow.holds Try.pinned (OpenSpec.upto nodeOrderSpec)

/-- 'multikernellaw12.NodeLineage', WHERE WHAT IT READS IS OF BULK AT MOST 1048576: true; the input reads as it did. -/
def nodeLineageUptoRow : OpenClaim := { program := "ytnoegjfokceghaa", sum := "a4891268f14234e621568b52ad80d063aa1cd618e886529113e4e4173c98eb8c", func := "multikernel/multikernellaw12.NodeLineage", spec := "nodeLineage", apart := false, narrowed := true }
def NodeLineageUptoSaid : Prop := nodeLineageUptoRow.holds Try.pinned (OpenSpec.upto nodeLineageSpec)

/-- 'multikernellaw12.NodeDepth', WHERE WHAT IT READS IS OF BULK AT MOST 1048576: true; the input reads as it did. -/
def nodeDepthUptoRow : OpenClaim := { program := "ytnoegjfokceghaa", sum := "a4891268f14234e621568b52ad80d063aa1cd618e886529113e4e4173c98eb8c", func := "multikernel/multikernellaw12.NodeDepth", spec := "nodeDepth", apart := false, narrowed := true }
def NodeDepthUptoSaid : Prop := nodeDepthUptoRow.holds Try.pinned (OpenSpec.upto nodeDepthSpec)

/-- 'multikernellaw12.NodeParent', WHERE WHAT IT READS IS OF BULK AT MOST 1048576: true; the input reads as it did. -/
def nodeParentUptoRow : OpenClaim := { program := "ytnoegjfokceghaa", sum := "a4891268f14234e621568b52ad80d063aa1cd618e886529113e4e4173c98eb8c", func := "multikernel/multikernellaw12.NodeParent", spec := "nodeParent", unfollowed := true, recurses := true, apart := false, narrowed := true }
def NodeParentUptoSaid : Prop := nodeParentUptoRow.holds Try.pinned (OpenSpec.upto nodeParentSpec)

end Rows
end Go.Proofs.Ytnoegjfokceghaa
