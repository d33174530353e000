/-
  The model's == at capabilities.
  Conditions: none.
-/
import Derived.Test.YtndppbfdcceflaaGreatDoorCaa
import Derived.Laws.StructEq
namespace Go.Proofs.YtndppbfdcceflaaGreatDoor

open Go.RowKit

/-- Two capabilities are equal. -/
def eqC (a b : GC) : Bool := a.kind == b.kind && (a.base == b.base && (a.bits == b.bits && (a.rights == b.rights && (a.width == b.width && (a.level == b.level && a.device == b.device)))))
theorem eqC_iff (a b : GC) : eqC a b = true ↔ a = b := by
  cases a; cases b
  simp [eqC]
theorem cap_eql (a b : GC) (w : World) : (Op.equalIn 10000 28 a.val b.val).run Tryz.prog w = .ok (eqC a b) w := by
  have u3 := Tryz.underlying3
  have u2 := Tryz.underlying4
  have hS : Tryz.prog.underlying 28 = some (.struct (Tryz.prog.fieldsOf 28)) := by kernel_rfl
  have hp : Tryz.prog.stoodInHeld 28 = false := by kernel_rfl
  have a3 := Tryz.isAgg3
  have z3 := Tryz.sizeOf3
  have a2 := Tryz.isAgg4
  have z2 := Tryz.sizeOf4
  unfold eqC
  simp only [GC.val]
  rw [show (10000 : Nat) = 9999 + 1 from rfl, run_equalIn_struct w 9999 28 _ _ hS hp]
  simp only [Program.fieldsOf, Tryz.underlying28]
  go_simp
  by_cases h0 : a.kind = b.kind
  rotate_left
  · simp [h0]
  by_cases h1 : a.base = b.base
  rotate_left
  · simp [h0, h1]
  by_cases h2 : a.bits = b.bits
  rotate_left
  · simp [h0, h1, h2]
  by_cases h3 : a.rights = b.rights
  rotate_left
  · simp [h0, h1, h2, h3]
  by_cases h4 : a.width = b.width
  rotate_left
  · simp [h0, h1, h2, h3, h4]
  by_cases h5 : a.level = b.level
  rotate_left
  · simp [h0, h1, h2, h3, h4, h5]
  by_cases h6 : a.device = b.device <;> simp [h6, h0, h1, h2, h3, h4, h5]
end Go.Proofs.YtndppbfdcceflaaGreatDoor
