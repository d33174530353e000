/-
  What the rows' listed variables give the walks that format numbers: the table of powers of ten too.
  Conditions: none.
  What the listed variables of the row of FactLaws give the walks.
  Conditions: none.
-/
import Derived.Test.YtolkceibbefhfaaGreatDoorMa3
import Derived.Test.YtolkceibbefhfaaGreatDoorMa9
import Derived.Lib.LaidTab
namespace Go.Proofs.YtolkceibbefhfaaGreatDoor
open Go.ChangeShapes Go.WideShapes Go.ChangeAt Go.RowKit

def Glob2 (w : World) : Prop := Glob w ∧ Pow w
theorem Glob2.next {w w' : World} (h : Glob2 w) (hb : Below w.heap.size w w') : Glob2 w' := ⟨h.1.next hb, h.2.next hb⟩
theorem tPow : (Tryz.prog.globals[1]?).map (·.type) = some 154 := by kernel_rfl
theorem laidPow {H : Type} : (Rows.laid_internal_strconv_uint64pow10 : DataW H) = Lib.tabData .u64 Lib.pow10Tab := rfl
theorem glob2_of_laid {W : World} (h : laidMetH Tryz.prog Rows.factOrderRow.laid W) : Glob2 W := by
  refine ⟨glob_of_laid h, ?_⟩
  rw [MakeChecks.laidMetH_plain _ _ _ (by kernel_rfl)] at h
  obtain ⟨ps, ⟨g0, t0, cs0, f0, p0, q0, hg0, ht0, hv0, hd0, ⟨g1, t1, cs1, f1, p1, q1, hg1, ht1, hv1, hd1, ⟨g2, t2, cs2, f2, p2, q2, hg2, ht2, hv2, hd2, ⟨g3, t3, cs3, f3, p3, q3, hg3, ht3, hv3, hd3, _⟩, _⟩, _⟩, _⟩, _, _⟩ := h
  obtain rfl := Option.some.inj (gPow.symm.trans hg2)
  obtain rfl := Option.some.inj (tPow.symm.trans ht2)
  unfold Pow Lib.TabIs
  rw [laidPow] at hd2
  rw [hv2, ← Lib.cells_of_tab Tryz.underlying154 Tryz.underlying68 (by kernel_rfl) (by kernel_rfl) hd2]
end Go.Proofs.YtolkceibbefhfaaGreatDoor


namespace Go.Proofs.YtolkceibbefhfaaGreatDoor
open Go.ChangeShapes Go.WideShapes Go.ChangeAt Go.RowKit

def Glob3 (w : World) : Prop := Glob2 w
theorem glob3_of_laid {W : World} (h : laidMetH Tryz.prog Rows.factLawsRow.laid W) : Glob3 W := glob2_of_laid (show laidMetH Tryz.prog Rows.factOrderRow.laid W from h)
end Go.Proofs.YtolkceibbefhfaaGreatDoor
