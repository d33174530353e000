/-
  The contracts of the program's functions on nodes, together.
  Conditions: none.
-/
import Derived.Test.YtnoegjfokceghaaNpf
import Derived.Test.YtnoegjfokceghaaNpj
namespace Go.Proofs.Ytnoegjfokceghaa

end Go.Proofs.Ytnoegjfokceghaa
