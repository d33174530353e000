/-
  What the appending functions have left, read as a string in every later world; what spare has left, read as the bytes themselves.
  Conditions: none beyond what each theorem says.
-/
import Derived.Test.YthndjngimfoanaaFixedApp
import Derived.Test.YthndjngimfoanaaGrow
namespace Go.Proofs.Ythndjngimfoanaa
open Go.RowKit

/-- What a call that appends has left, read as a string in every later world. -/
theorem app_str {w2 : World} {g m : Nat} {l : List UInt8} (h : RowAt w2 g (vals l)) (hm : l.length = m) (W : World) (hW : Fut w2 W) (c : Nat) :
    (convert 22 9 (.slice (some ⟨g, 0, none⟩) m c)).run Try.prog W = .ok (.string (bs l)) W :=
  ((h.byt' h.lt hm).below hW).str c
theorem grow_str {w w2 : World} {t : Value} {l : List UInt8} (h : Grow w w2 t l) : ∃ A m cap, t = .slice A m cap ∧ ∀ W, Fut w2 W → (convert 22 9 (.slice A m cap)).run Try.prog W = .ok (.string (bs l)) W := by
  obtain ⟨A, cap, e, _, hb⟩ := h.form
  exact ⟨A, _, cap, e, fun W hW => (hb.below hW).str cap⟩

theorem spare_byt {w : World} {B n : Nat} {A : Option Addr} {l : List UInt8} (h : Byt w B A (n + 1) (l ++ [99])) (hl : l.length = n) : Byt w B A n l := by
  have := h.to (k := n) (by omega)
  rw [List.take_left' hl] at this
  exact this

end Go.Proofs.Ythndjngimfoanaa
