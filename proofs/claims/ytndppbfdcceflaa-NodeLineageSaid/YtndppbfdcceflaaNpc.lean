/-
  The library's Equal at Ids, and the program's Equal.
  Conditions: none.
-/
import Derived.Test.YtndppbfdcceflaaNpb
namespace Go.Proofs.Ytndppbfdcceflaa

open Go.RowKit

end Go.Proofs.Ytndppbfdcceflaa
