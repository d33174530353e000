/-
  The program's Parent.
  Conditions: none.
-/
import Derived.Test.YtndppbfdcceflaaNpe
namespace Go.Proofs.Ytndppbfdcceflaa

open Go.RowKit Go.Shelf

attribute [local go_sem] Oper.semAt_some

end Go.Proofs.Ytndppbfdcceflaa
