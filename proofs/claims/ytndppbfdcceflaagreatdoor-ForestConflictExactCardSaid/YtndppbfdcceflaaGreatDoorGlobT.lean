/-
  What the rows' listed variables give the walks of layer 10: the table of math/bits.
  Conditions: none.
-/
import Derived.Test.YtndppbfdcceflaaGreatDoorRows
import Derived.Test.YtndppbfdcceflaaGreatDoorMra
import Derived.ProofKit
import Derived.Lay
import Derived.LaidMore
import Derived.LaidLaws
import Derived.OpenShut
import Derived.Stop.Joined
import Derived.Lib.LaidTab
namespace Go.Proofs.YtndppbfdcceflaaGreatDoor

open Go.ChangeShapes Go.WideShapes Go.ChangeAt Go.RowKit

def GlobT (w : World) : Prop := T10 w
theorem gBru : Tryz.prog.globalNamed "math/bits.deBruijn64tab" = some 1 := by kernel_rfl
theorem tBru : (Tryz.prog.globals[1]?).map (·.type) = some 157 := by kernel_rfl
theorem laidBru {H : Type} : (Rows.laid_math_bits_deBruijn64tab : DataW H) = Lib.tabData .u8 (Lib.deBruijn64tab.map Int.ofNat) := rfl
theorem globt_of_laid {W : World} (h : laidMetH Tryz.prog Rows.forestQueriesExactRow.laid W) : GlobT W := by
  rw [MakeChecks.laidMetH_plain _ _ _ (by kernel_rfl)] at h
  obtain ⟨ps, ⟨g0, t0, cs0, f0, p0, q0, hg0, ht0, hv0, hd0, ⟨g1, t1, cs1, f1, p1, q1, hg1, ht1, hv1, hd1, _⟩, _⟩, _⟩ := h
  obtain rfl := Option.some.inj (gBru.symm.trans hg1)
  obtain rfl := Option.some.inj (tBru.symm.trans ht1)
  rw [laidBru] at hd1
  have hcs := Lib.cells_of_tab Tryz.underlying157 Tryz.underlying5 (by kernel_rfl) (by kernel_rfl) hd1
  intro j hj
  have hc := World.var?_cell hg1 hv1 j
  have e : cs1[j]? = some (.int .u8 (Lib.deBruijn64tab.getD j 0)) := by
    rw [← Array.getElem?_toList, hcs, List.getElem?_map, List.getElem?_map, List.getElem?_eq_getElem hj, List.getD_eq_getElem?_getD, List.getElem?_eq_getElem hj]
    rfl
  rw [e] at hc
  exact hc
end Go.Proofs.YtndppbfdcceflaaGreatDoor
