/-
  The comparison of two ranges by which the program sorts.
  Conditions: none.
-/
import Derived.Test.YtndppbfdcceflaaGreatDoorMrb
import Derived.Sort.Grow
import Derived.Sort.Statements
import Derived.Deep.Draws
import Derived.Deep.RegionHeld3
import Derived.Lib.AppendIntMem
namespace Go.Proofs.YtndppbfdcceflaaGreatDoor

open Go.RowKit Go.Sort

/-- w' is w with draws and new blocks. -/
def Gr (w w' : World) : Prop := ∃ q os, w' = grow (w.drewN q) os
theorem Gr.refl (w : World) : Gr w w := ⟨0, #[], by rw [grow_empty]; rfl⟩
theorem Gr.drew {w w' : World} (h : Gr w w') : Gr w w'.drew := by
  obtain ⟨q, os, rfl⟩ := h
  exact ⟨q + 1, os, rfl⟩
theorem gr_lit {w w' : World} (h : Gr w w') (o : Obj) : Gr w (w'.alloc o) := by
  obtain ⟨q, os, rfl⟩ := h
  exact ⟨q, os ++ #[o], by rw [alloc_eq_grow, grow_grow]⟩
theorem Gr.bel {w w' : World} (h : Gr w w') : Below w.heap.size w w' := by
  obtain ⟨q, os, rfl⟩ := h
  exact Lib.below_grow _ w (Nat.le_refl _) q os
/-- What the comparison returns. -/
def cmpR (a b : GR) : Int := orI (Lib.compareInt a.base b.base) (Lib.compareInt b.bits a.bits)
theorem ci_lt (x y : Int) : Lib.compareInt x y < 0 ↔ x < y := by unfold Lib.compareInt; split <;> (try split) <;> omega
theorem ci_eq (x y : Int) : Lib.compareInt x y = 0 ↔ x = y := by unfold Lib.compareInt; split <;> (try split) <;> omega
theorem cmp_lt (a b : GR) : cmpR a b < 0 ↔ a.base < b.base ∨ a.base = b.base ∧ b.bits < a.bits := by
  have h1 := ci_lt a.base b.base
  have h2 := ci_eq a.base b.base
  have h3 := ci_lt b.bits a.bits
  unfold cmpR orI
  split <;> omega
instance : Inhabited GR := ⟨⟨0, 0⟩⟩
set_option maxRecDepth 50000 in
set_option maxHeartbeats 1000000 in
theorem cmpR_gr (a b : GR) (w : World) :
    Calls Tryz.prog 129 #[a.val, b.val] w fun e w' => e = .returned (.int .i64 (cmpR a b)) ∧ Gr w w' := by
  have HE : Hid (cmpR a b = orI (Lib.compareInt a.base b.base) (Lib.compareInt b.bits a.bits)) := Lib.hid rfl
  obtain ⟨ab, an⟩ := a
  obtain ⟨bb, bn⟩ := b
  have H1 := Lib.hid (Tryz.cmp_Compare_int ab bb)
  have H2 := Lib.hid (Tryz.cmp_Compare_int bn an)
  simp only [GR.val] at *
  generalize cmpR ⟨ab, an⟩ ⟨bb, bn⟩ = q at *
  generalize Lib.compareInt ab bb = c1 at *
  generalize Lib.compareInt bn an = c2 at *
  go_enter Tryz.func129, Tryz.ntmps129
  go_wp2
  go_region_held3 (fun W => W.cell? ⟨w.heap.size, 0, none⟩ = some (.int .i64 ab) ∧ W.cell? ⟨w.heap.size, 1, none⟩ = some (.int .i64 an) ∧ W.cell? ⟨w.heap.size + 1, 0, none⟩ = some (.int .i64 bb) ∧ W.cell? ⟨w.heap.size + 1, 1, none⟩ = some (.int .i64 bn))
    (first | assumption | go_keep)
    (first | (go_at_call 106; go_fit (H1.out _); rintro e w1 ⟨rfl, rfl⟩) | (go_at_call 106; go_fit (H2.out _); rintro e w1 ⟨rfl, rfl⟩) | (go_at_call 105; go_fit (or_two c1 c2 _ _ (by go_simp) (by go_simp)); rintro e w1 ⟨rfl, rfl⟩))
  go_wp2
  go_ret
  refine ⟨?_, ?_⟩
  · exact congrArg (fun x => Ending.returned (Value.int .i64 x)) HE.out.symm
  · exact (gr_lit (gr_lit (gr_lit (Gr.refl _) _) _) _).drew
end Go.Proofs.YtndppbfdcceflaaGreatDoor
