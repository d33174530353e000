/-
  The reference's ParentOf.
  Conditions: none.
-/
import Derived.Test.YtndppbfdcceflaaNad
namespace Go.Proofs.Ytndppbfdcceflaa

open Go.RowKit

/-- The last of xs that is among ls. -/
def parO (xs ls : List GId) : Option GId := xs.reverse.find? fun x => hasI ls x
def parB (xs ls : List GId) : Bool := (parO xs ls).isSome
def parI (xs ls : List GId) : GId := (parO xs ls).getD ⟨0, 0, 0⟩
theorem parO_succ (xs ls : List GId) (k : Nat) (hk : k < xs.length) : parO (xs.take (k + 1)) ls = if hasI ls xs[k] = true then some xs[k] else parO (xs.take k) ls := by
  unfold parO
  rw [List.take_succ_eq_append_getElem hk, List.reverse_append, List.reverse_singleton, List.singleton_append, List.find?_cons]
  cases hasI ls xs[k] <;> rfl
theorem par_some {xs ls : List GId} {x : GId} (h : parO xs ls = some x) : parI xs ls = x ∧ parB xs ls = true := by unfold parI parB; rw [h]; exact ⟨rfl, rfl⟩
theorem par_none {xs ls : List GId} (h : parO xs ls = none) : parI xs ls = ⟨0, 0, 0⟩ ∧ parB xs ls = false := by unfold parI parB; rw [h]; exact ⟨rfl, rfl⟩
end Go.Proofs.Ytndppbfdcceflaa
