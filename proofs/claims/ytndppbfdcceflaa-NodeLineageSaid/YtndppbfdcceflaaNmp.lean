/-
  The contracts of the program's functions on nodes, together.
  Conditions: none.
-/
import Derived.Test.YtndppbfdcceflaaNpf
import Derived.Test.YtndppbfdcceflaaNpj
namespace Go.Proofs.Ytndppbfdcceflaa

end Go.Proofs.Ytndppbfdcceflaa
