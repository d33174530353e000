/-
  The reference's Covered: the number of bytes that are covered.
  Conditions: at most 100000 ranges.
-/
import Derived.Test.YtndppbfdcceflaaGreatDoorRgh
namespace Go.Proofs.YtndppbfdcceflaaGreatDoor

open Go.RowKit

theorem GRow.rngAt {w : World} {B b o : Nat} {xs : List GR} (h : GRow GR.cells 2 w B (some ⟨b, o, none⟩) xs) {k : Nat} (hk : k < xs.length) : w.cell? ⟨b, o + k * 2, none⟩ = some (.int .i64 xs[k].base) ∧ w.cell? ⟨b, o + k * 2 + 1, none⟩ = some (.int .i64 xs[k].bits) := by
  obtain ⟨b', o', e, _, hc⟩ := h (by omega)
  cases e
  exact ⟨hc k hk 0 _ rfl, hc k hk 1 _ rfl⟩
theorem GRow.rngIs {w : World} {B b o : Nat} {xs : List GR} (h : GRow GR.cells 2 w B (some ⟨b, o, none⟩) xs) {k : Nat} (hk : k < xs.length) {xb xn : Int} (hx : (⟨xb, xn⟩ : GR) = xs[k]) : w.cell? ⟨b, o + k * 2, none⟩ = some (.int .i64 xb) ∧ w.cell? ⟨b, o + k * 2 + 1, none⟩ = some (.int .i64 xn) := by
  have := h.rngAt hk
  rw [← hx] at this
  exact this
theorem covN_bound (l : List GR) : ∀ i : Nat, 0 ≤ covN l i ∧ covN l i ≤ i * 1099511627776
  | 0 => ⟨Int.le_refl _, Int.le_refl _⟩
  | i + 1 => by
    obtain ⟨h1, h2⟩ := covN_bound l i
    have := sz_pos (gAt l i)
    rw [covN]
    by_cases hm : maxAt l i = true
    · rw [if_pos hm]
      have hv := (max_iff.1 hm).1
      have := hv.top
      have := hv.b0
      omega
    · rw [if_neg hm]; omega
theorem beat_step (l : List GR) (i k : Nat) : (List.range (k + 1)).any (beatB l i) = ((List.range k).any (beatB l i) || beatB l i k) := by
  rw [List.range_succ, List.any_append]; simp
end Go.Proofs.YtndppbfdcceflaaGreatDoor
