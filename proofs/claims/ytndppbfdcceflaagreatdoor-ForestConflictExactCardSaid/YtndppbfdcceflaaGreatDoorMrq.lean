/-
  Stands for layer 11's text on the program's ranges where layer 10's are there.
  Conditions: none.
-/
import Derived.Test.YtndppbfdcceflaaGreatDoorMra
namespace Go.Proofs.YtndppbfdcceflaaGreatDoor

end Go.Proofs.YtndppbfdcceflaaGreatDoor
