/-
  The laws NodeOrder, NodeExact, NodeChildExact as the frame hands them their arguments.
  Conditions: none.
-/
import Derived.Test.YtnoegjfokceghaaNop
import Derived.Test.YtnoegjfokceghaaNlo
import Derived.Test.YtnoegjfokceghaaNle
import Derived.Test.YtnoegjfokceghaaNlc
namespace Go.Proofs.Ytnoegjfokceghaa

open Go.RowKit

theorem lchiN (s : GN) (A : Option Addr) (c : Nat) (i : GId) (a : GC) (w : World) (h : s.path.length ≤ c ∧ PRow w w.heap.size A s.path) :
    Calls Try.prog 4 #[s.val A c, i.val, a.val] w fun e w' => e = .returned (.bool true) ∧ Below w.heap.size w w' := lchi12 s A c i a w h.2 h.1
theorem lnexN (a : GN) (A : Option Addr) (c : Nat) (b : GN) (B : Option Addr) (d : Nat) (x y : GId) (L : Option Addr) (ln lc : Nat) (ls : List GId) (w : World) (h0 : a.path.length ≤ c ∧ PRow w w.heap.size A a.path) (h1 : b.path.length ≤ d ∧ PRow w w.heap.size B b.path) (h4 : IdRow w w.heap.size L ln lc ls) :
    Calls Try.prog 3 #[a.val A c, b.val B d, x.val, y.val, .slice L ln lc] w fun e w' => e = .returned (.bool true) ∧ Below w.heap.size w w' := lnex12 a b A B c d x y ls L ln lc w h0.2 h1.2 h4.2.2 h4.1 h0.1 h1.1
end Go.Proofs.Ytnoegjfokceghaa
