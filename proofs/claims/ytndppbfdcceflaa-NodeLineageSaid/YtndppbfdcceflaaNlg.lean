/-
  Plain facts for the law NodeLineage: what a child is below.
  Conditions: none.
-/
import Derived.Test.YtndppbfdcceflaaNld
namespace Go.Proofs.Ytndppbfdcceflaa

open Go.RowKit

theorem has_snoc (xs : List GId) (y x : GId) : hasI (xs ++ [y]) x = (eqI x y || hasI xs x) := by
  rw [Bool.eq_iff_iff, Bool.or_eq_true, eqI_iff]
  unfold hasI
  simp only [decide_eq_true_eq, List.mem_append, List.mem_singleton]
  exact ⟨fun h => h.symm, fun h => h.symm⟩
/-- A child that is made: valid, below its source and all that its source is below, and below nothing else. -/
theorem ch_line {s : GN} {i : GId} {c : GC} (h : chE s i c = 0) : vN (chN s i c) = true ∧ (chN s i c).id = i ∧ (chN s i c).cap = c ∧ (∀ x, hasI (chN s i c).path x = (eqI x s.id || hasI s.path x)) ∧ (chN s i c).path.length = s.path.length + 1 := by
  obtain ⟨h1, h2⟩ := ch_valid h
  refine ⟨h1, by rw [h2], by rw [h2], fun x => by rw [h2]; exact has_snoc _ _ _, by rw [h2]; simp⟩
theorem ch_zero {s : GN} {i : GId} {c : GC} (h : chE s i c ≠ 0) : chN s i c = zN := by unfold chN; rw [if_neg h]
end Go.Proofs.Ytndppbfdcceflaa
