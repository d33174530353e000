/-
  The program's Less.
  Conditions: none.
-/
import Derived.Test.YtndppbfdcceflaaGreatDoorNpa
namespace Go.Proofs.YtndppbfdcceflaaGreatDoor

open Go.RowKit

set_option maxRecDepth 20000 in
set_option maxHeartbeats 1000000 in
theorem pLess_any (i j : GId) (w : World) : Calls Tryz.prog 66 #[i.val, j.val] w fun e w' => e = .returned (.bool (ltI i j)) ∧ Below w.heap.size w w' := by
  have HQ := Lib.hid (ltI_or i j)
  generalize ltI i j = q at *
  obtain ⟨a0, a1, a2⟩ := i
  obtain ⟨b0, b1, b2⟩ := j
  simp only [GId.val] at *
  have HO := Lib.hid fun g d W => pOr_any (sgn a0 b0) (sgn a1 b1) (sgn a2 b2) g d W
  have HC0 := Lib.hid fun W => pCmp_any a0 b0 W
  have HC1 := Lib.hid fun W => pCmp_any a1 b1 W
  have HC2 := Lib.hid fun W => pCmp_any a2 b2 W
  generalize orI3 (sgn a0 b0) (sgn a1 b1) (sgn a2 b2) = r at *
  generalize sgn a0 b0 = s0 at *
  generalize sgn a1 b1 = s1 at *
  generalize sgn a2 b2 = s2 at *
  have HB0 := Lib.hid (belt (belt (Below.refl _ w) (.cells #[.int .i64 a0, .int .i64 a1, .int .i64 a2] 25)) (.cells #[.int .i64 b0, .int .i64 b1, .int .i64 b2] 25))
  have HXA := Lib.hid ((IB.new w ⟨a0, a1, a2⟩).next (belt (Below.refl _ _) (.cells #[.int .i64 b0, .int .i64 b1, .int .i64 b2] 25)))
  have HXB := Lib.hid (IB.new (w.alloc (.cells #[.int .i64 a0, .int .i64 a1, .int .i64 a2] 25)) ⟨b0, b1, b2⟩)
  simp only [World.size_alloc] at HXB
  go_enter Tryz.func66, Tryz.ntmps66
  go_upto_region 1 with fail
  generalize (w.alloc (.cells #[.int .i64 a0, .int .i64 a1, .int .i64 a2] 25)).alloc (.cells #[.int .i64 b0, .int .i64 b1, .int .i64 b2] 25) = w2 at *
  have hS : Below w.heap.size w w2 ∧ IB w2 w.heap.size ⟨a0, a1, a2⟩ ∧ IB w2 (w.heap.size + 1) ⟨b0, b1, b2⟩ := ⟨HB0.out, HXA.out, HXB.out⟩
  have hS0 := hS
  have hS : Below w.heap.size w w2.drew ∧ IB w2.drew w.heap.size ⟨a0, a1, a2⟩ ∧ IB w2.drew (w.heap.size + 1) ⟨b0, b1, b2⟩ := ⟨hS.1.drew, hS.2.1.next (Below.refl _ _).drew, hS.2.2.next (Below.refl _ _).drew⟩
  refine wp_region_growS (S := fun W => Below w.heap.size w W ∧ IB W w.heap.size ⟨a0, a1, a2⟩ ∧ IB W (w.heap.size + 1) ⟨b0, b1, b2⟩) [(0, true), (1, true), (2, true), (3, true), (5, true), (6, true), (7, true), (8, true), (10, true), (11, true), (12, true), (13, true), (4, false), (9, false), (14, false), (15, false), (16, false), (17, true), (18, true)] (by kernel_rfl) (by kernel_rfl) (by kernel_rfl) (by kernel_rfl) (by intro c a d v w h; cases d <;> exact h) hS ?_
  iterate 12
    (first
      | (refine wpGrowS_float (v := ?_) (by simp only [List.getElem?_toArray, List.getElem?_cons_succ, List.getElem?_cons_zero]; rfl) (by rfl) ?_ ?_
         rotate_left
         · (intro W hW; obtain ⟨x0, x1, x2⟩ := IB.cells (hW.2.1); obtain ⟨y0, y1, y2⟩ := IB.cells (hW.2.2); (try simp only at *); go_simp; try with_reducible rfl)
         simp only [Act.put, List.setIfInBounds_toArray, List.set_cons_zero, List.set_cons_succ])
      | (refine wpGrowS_skip (by simp only [List.getElem?_toArray, List.getElem?_cons_succ, List.getElem?_cons_zero]; rfl) (by rfl) ?_
         simp only [Act.put, List.setIfInBounds_toArray, List.set_cons_zero, List.set_cons_succ]))
  refine wpGrowS_call (by simp only [List.getElem?_toArray, List.getElem?_cons_succ, List.getElem?_cons_zero]; rfl) (by rfl) fun K hK => ?_
  go_simp
  go_fit (HC0.out _)
  rintro e wn ⟨rfl, rfl⟩
  go_simp
  refine hK _ _ hS ?_
  clear hK K
  try simp only [Act.put, List.setIfInBounds_toArray, List.set_cons_zero, List.set_cons_succ]
  refine wpGrowS_call (by simp only [List.getElem?_toArray, List.getElem?_cons_succ, List.getElem?_cons_zero]; rfl) (by rfl) fun K hK => ?_
  go_simp
  go_fit (HC1.out _)
  rintro e wn ⟨rfl, rfl⟩
  go_simp
  refine hK _ _ hS ?_
  clear hK K
  try simp only [Act.put, List.setIfInBounds_toArray, List.set_cons_zero, List.set_cons_succ]
  refine wpGrowS_call (by simp only [List.getElem?_toArray, List.getElem?_cons_succ, List.getElem?_cons_zero]; rfl) (by rfl) fun K hK => ?_
  go_simp
  go_fit (HC2.out _)
  rintro e wn ⟨rfl, rfl⟩
  go_simp
  refine hK _ _ hS ?_
  clear hK K
  try simp only [Act.put, List.setIfInBounds_toArray, List.set_cons_zero, List.set_cons_succ]
  refine wpGrowS_call (by simp only [List.getElem?_toArray, List.getElem?_cons_succ, List.getElem?_cons_zero]; rfl) (by rfl) fun K hK => ?_
  go_simp
  have hbn := (belt (Below.refl _ w2) (.cells #[.int .i64 s0, .int .i64 s1, .int .i64 s2] 3)).drew
  have hS : Below w.heap.size w (w2.alloc (.cells #[.int .i64 s0, .int .i64 s1, .int .i64 s2] 3)).drew ∧ IB (w2.alloc (.cells #[.int .i64 s0, .int .i64 s1, .int .i64 s2] 3)).drew w.heap.size ⟨a0, a1, a2⟩ ∧ IB (w2.alloc (.cells #[.int .i64 s0, .int .i64 s1, .int .i64 s2] 3)).drew (w.heap.size + 1) ⟨b0, b1, b2⟩ := ⟨beln (hS0.1) hbn, IB.next (hS0.2.1) hbn, IB.next (hS0.2.2) hbn⟩
  have hz0 : (w2.alloc (.cells #[.int .i64 s0, .int .i64 s1, .int .i64 s2] 3)).drew.cell? ⟨w2.heap.size, 0, none⟩ = some (.int .i64 s0) := by
    rw [World.cell?_drew, Lib.cell_of_heap (heap_alloc_new w2 _)]; rfl
  have hz1 : (w2.alloc (.cells #[.int .i64 s0, .int .i64 s1, .int .i64 s2] 3)).drew.cell? ⟨w2.heap.size, 1, none⟩ = some (.int .i64 s1) := by
    rw [World.cell?_drew, Lib.cell_of_heap (heap_alloc_new w2 _)]; rfl
  have hz2 : (w2.alloc (.cells #[.int .i64 s0, .int .i64 s1, .int .i64 s2] 3)).drew.cell? ⟨w2.heap.size, 2, none⟩ = some (.int .i64 s2) := by
    rw [World.cell?_drew, Lib.cell_of_heap (heap_alloc_new w2 _)]; rfl
  refine hK _ _ hS ?_
  clear hK K
  try simp only [Act.put, List.setIfInBounds_toArray, List.set_cons_zero, List.set_cons_succ]
  refine wpGrowS_call (by simp only [List.getElem?_toArray, List.getElem?_cons_succ, List.getElem?_cons_zero]; rfl) (by rfl) fun K hK => ?_
  go_simp
  go_fit (HO.out _ _ _ hz0 hz1 hz2)
  rintro e wn ⟨rfl, rfl⟩
  go_simp
  refine hK _ _ hS ?_
  clear hK K
  try simp only [Act.put, List.setIfInBounds_toArray, List.set_cons_zero, List.set_cons_succ]
  iterate 2
    (first
      | (refine wpGrowS_float (v := ?_) (by simp only [List.getElem?_toArray, List.getElem?_cons_succ, List.getElem?_cons_zero]; rfl) (by rfl) ?_ ?_
         rotate_left
         · (intro W hW; obtain ⟨x0, x1, x2⟩ := IB.cells (hW.2.1); obtain ⟨y0, y1, y2⟩ := IB.cells (hW.2.2); (try simp only at *); go_simp; try with_reducible rfl)
         simp only [Act.put, List.setIfInBounds_toArray, List.set_cons_zero, List.set_cons_succ])
      | (refine wpGrowS_skip (by simp only [List.getElem?_toArray, List.getElem?_cons_succ, List.getElem?_cons_zero]; rfl) (by rfl) ?_
         simp only [Act.put, List.setIfInBounds_toArray, List.set_cons_zero, List.set_cons_succ]))
  refine wpGrowS_nil ?_
  have HE := Lib.hid hS.1
  go_wp2
  go_ret
  exact ⟨congrArg (fun b => Ending.returned (Value.bool b)) HQ.out.symm, HE.out⟩
end Go.Proofs.YtndppbfdcceflaaGreatDoor
