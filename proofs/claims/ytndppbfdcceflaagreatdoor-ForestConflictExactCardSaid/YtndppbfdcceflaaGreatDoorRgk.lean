/-
  The maker of lists of ranges; copies of a row of ranges.
  Conditions: none beyond what each theorem says.
-/
import Derived.Test.YtndppbfdcceflaaGreatDoorRgj
namespace Go.Proofs.YtndppbfdcceflaaGreatDoor

open Go.RowKit

/-- A list of small ranges in memory of the call's own. -/
structure SmlEnd (w : World) (v : Value) (rs : List GR) (w' : World) : Prop where
  own : OwnR w' w.heap.size v rs
  few : rs.length ≤ 40
  ok : ∀ r ∈ rs, VR r ∧ r.bits ≤ 16
  bel : Below w.heap.size w w'
end Go.Proofs.YtndppbfdcceflaaGreatDoor
