/-
  A slice of slices of bytes that comes in as an argument, as the library opens it, reads as a list of parts.
  Conditions: none beyond the frame's.
-/
import Derived.Test.YthndjngimfoanaaSeqWalk
import Derived.Deep.Matrix
namespace Go.Proofs.Ythndjngimfoanaa
open Go.RowKit

theorem rowParts {W : World} (x : Addr) (len cap : Nat) (A : Nat → Option Addr) (L C : Nat → Nat) (Z : Nat → List Int) (hl : len ≤ cap)
    (hrows : ∀ r, r < cap → W.cell? (x.add r) = some (.slice (A r) (L r) (C r)) ∧ L r ≤ C r ∧ C r ≤ maxLen ∧ (Z r).length = C r ∧ (∀ n ∈ Z r, (Lit.int .u8 n).wf = true) ∧ (A r = none → C r = 0) ∧
      ∀ a', A r = some a' → 0 ≤ a'.block ∧ ∀ c, c < C r → W.cell? (a'.add c) = some (.int .u8 ((Z r).getD c 0))) :
    ∃ ps : List Part, ps.length = len ∧ Row W W.heap.size (some x) len (partV ps) ∧ ∀ j, Byt W W.heap.size (ps.getD j Part.zero).a (ps.getD j Part.zero).n (ps.getD j Part.zero).l := by
  have each : ∀ r, r < len → ∃ l, Byt W W.heap.size (A r) (L r) l := fun r hr => by
    obtain ⟨_, h1, h2, h3, h4, h5, h6⟩ := hrows r (by omega)
    have hz : (A r = none ∧ L r = 0 ∧ C r = 0 ∧ Z r = []) ∨
        ∃ y, A r = some y ∧ L r ≤ C r ∧ C r ≤ maxLen ∧ (Z r).length = C r ∧ (∀ i, i < (Z r).length → W.cell? (y.add i) = some (.int .u8 ((Z r).getD i 0))) ∧ ∀ n ∈ Z r, (Lit.int .u8 n).wf = true := by
      cases hA : A r with
      | none =>
        have h0 := h5 hA
        exact .inl ⟨rfl, by omega, h0, List.eq_nil_of_length_eq_zero (by omega)⟩
      | some y => exact .inr ⟨y, rfl, h1, h2, h3, fun i hi => (h6 y hA).2 i (by omega), h4⟩
    obtain ⟨l, hb, _, _⟩ := rowByt hz
    exact ⟨l, hb⟩
  obtain ⟨f, hf⟩ := Go.Deep.choose_lt each
  have hget : ∀ j, j < len → ((List.range len).map fun r => (⟨A r, L r, C r, f r⟩ : Part)).getD j Part.zero = ⟨A j, L j, C j, f j⟩ := fun j hj => by
    rw [List.getD_eq_getElem?_getD, List.getElem?_map, List.getElem?_range hj]; rfl
  refine ⟨(List.range len).map fun r => ⟨A r, L r, C r, f r⟩, by simp, fun h0 => ?_, fun j => ?_⟩
  · obtain ⟨b, off, spot⟩ := x
    have hc0 := (hrows 0 (by omega)).1
    have hspot : spot = none := by simpa [Addr.add] using World.cell?_spot hc0
    subst hspot
    have hlt := World.block_lt_of_cell? W _ hc0
    refine ⟨b, off, rfl, by simpa [Addr.add] using hlt, fun j hj => ?_⟩
    have e : (⟨b, off, none⟩ : Addr).add j = ⟨b, off + j, none⟩ := by unfold Addr.add; split <;> simp_all
    rw [← e, (hrows j (by omega)).1]
    unfold partV
    rw [hget j hj]
  · rcases Nat.lt_or_ge j len with hj | hj
    · rw [hget j hj]; exact hf j hj
    · have e : ((List.range len).map fun r => (⟨A r, L r, C r, f r⟩ : Part)).getD j Part.zero = Part.zero := by
        rw [List.getD_eq_getElem?_getD, List.getElem?_eq_none (by simpa using hj)]; rfl
      rw [e]; exact Byt.nil

end Go.Proofs.Ythndjngimfoanaa
