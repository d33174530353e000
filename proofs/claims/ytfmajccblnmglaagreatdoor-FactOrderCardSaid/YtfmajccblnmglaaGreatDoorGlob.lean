/-
  What the rows' listed variables give the walks, and that the program's own start meets the rows' condition on them.
  Conditions: none.
-/
import Derived.Test.YtfmajccblnmglaaGreatDoorRows
import Derived.Test.YtfmajccblnmglaaGreatDoorLexM
import Derived.ProofKit
import Derived.LaidMore
import Derived.LaidLaws
import Derived.OpenShut
import Derived.Stop.Joined
namespace Go.Proofs.YtfmajccblnmglaaGreatDoor
open Go.ChangeShapes Go.WideShapes Go.ChangeAt Go.RowKit

theorem gRange : Tryz.prog.globalNamed "strconv.ErrRange" = some 3 := by kernel_rfl
theorem tRange : (Tryz.prog.globals[3]?).map (·.type) = some 79 := by kernel_rfl
theorem glob_of_laid {W : World} (h : laidMetH Tryz.prog Rows.factOrderRow.laid W) : Glob W := by
  rw [MakeChecks.laidMetH_plain _ _ _ (by kernel_rfl)] at h
  obtain ⟨ps, ⟨g0, t0, cs0, f0, p0, q0, hg0, ht0, hv0, hd0, ⟨g1, t1, cs1, f1, p1, q1, hg1, ht1, hv1, hd1, ⟨g2, t2, cs2, f2, p2, q2, hg2, ht2, hv2, hd2, ⟨g3, t3, cs3, f3, p3, q3, hg3, ht3, hv3, hd3, _⟩, _⟩, _⟩, _⟩, _, _⟩ := h
  obtain rfl := Option.some.inj (gRange.symm.trans hg3)
  obtain rfl := Option.some.inj (tRange.symm.trans ht3)
  obtain ⟨l3⟩ := cs3
  obtain ⟨f, u, v, hcs, hn, h1⟩ := iface_of_trod Tryz.underlying79 hd3
  have hcell : W.cell? ⟨3, 0, none⟩ = some (.iface u v) := by
    have h := World.var?_cell hg3 hv3 0
    have e : l3 = [.iface u v] := hcs
    subst e
    simpa using h
  exact ⟨World.block_lt_of_cell? W ⟨3, 0, none⟩ hcell, _, hcell, .inr ⟨u, v, rfl⟩⟩
theorem door_met (os : Os) (args : Array Value) : laidMetH Tryz.prog Rows.factOrderRow.laid ((World.doorLaid Tryz.prog 400 os).forCall (fun _ _ => 0) ⟨#[], args, []⟩).memory :=
  laidMetH_of_parts3 (fuel := 8) (laidMet_of_run' 8 (by kernel_rfl) (by kernel_rfl)) (by kernel_rfl) (by kernel_rfl)
end Go.Proofs.YtfmajccblnmglaaGreatDoor
