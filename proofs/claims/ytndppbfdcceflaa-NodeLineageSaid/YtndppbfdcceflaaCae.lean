/-
  The reference's DecodeCap.
  Conditions: none.
-/
import Derived.Test.YtndppbfdcceflaaCad
import Derived.Test.YtndppbfdcceflaaGrs
namespace Go.Proofs.Ytndppbfdcceflaa

open Go.RowKit

def bI (l : List UInt8) (j : Nat) : Int := (bt l j : Int)
theorem bI_lt (l : List UInt8) (j : Nat) : 0 ≤ bI l j ∧ bI l j < 256 := by unfold bI; have := bt_lt l j; omega
/-- The address that stands in the last bytes, the first j of them. -/
def pB (l : List UInt8) : Nat → Int
  | 0 => 0
  | 1 => bI l 5
  | 2 => bI l 5 + bI l 6 * 256
  | 3 => bI l 5 + bI l 6 * 256 + bI l 7 * 65536
  | 4 => bI l 5 + bI l 6 * 256 + bI l 7 * 65536 + bI l 8 * 16777216
  | _ + 5 => bI l 5 + bI l 6 * 256 + bI l 7 * 65536 + bI l 8 * 16777216 + bI l 9 * 4294967296
def rawC (l : List UInt8) : GC := ⟨bI l 0, pB l 5, bI l 1, bI l 2 % 8, bI l 3, bI l 4, decide (8 ≤ bI l 2)⟩
def zC : GC := ⟨0, 0, 0, 0, 0, 0, false⟩
def decP (l : List UInt8) : Prop := l.length = 10 ∧ bI l 2 < 16 ∧ vC (rawC l) = true
instance (l : List UInt8) : Decidable (decP l) := by unfold decP; infer_instance
def decC (l : List UInt8) : GC := if decP l then rawC l else zC
def decE (l : List UInt8) : Int := if decP l then 0 else 14
end Go.Proofs.Ytndppbfdcceflaa
