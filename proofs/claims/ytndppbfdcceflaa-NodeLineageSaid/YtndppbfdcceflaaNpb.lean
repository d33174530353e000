/-
  The program's Less.
  Conditions: none.
-/
import Derived.Test.YtndppbfdcceflaaNpa
namespace Go.Proofs.Ytndppbfdcceflaa

open Go.RowKit

end Go.Proofs.Ytndppbfdcceflaa
