/-
  Package forest: permits, the closures of Conflict, the library's ContainsFunc at them, Conflict.
  Conditions: none.
  Package forest: the closure of Conflict, the library's ContainsFunc at it, Conflict.
  Conditions: at most 100000 entries and capabilities.
  Package forest: Conflict.
  Conditions: at most 100000 entries and capabilities.
  The reference's Descendants and Parent; whether entries are few.
  Conditions: at most 100000 entries.
  The reference's FreeOf and Conflict.
  Conditions: at most 100000 entries and capabilities.
  The law ForestConflictExact returns true.
  Conditions: the table of math/bits lies as the program's text lays it.
  Ids, slices of Ids, nodes, entries and slices of entries that come in as arguments, as the library opens them.
  Conditions: none beyond the frame's.
  Ranges and slices of capabilities that come in as arguments, as the library opens them.
  Conditions: none beyond the frame's.
-/
import Derived.Test.YtndppbfdcceflaaGreatDoorMy4
import Derived.Test.YtndppbfdcceflaaGreatDoorMy2
import Derived.Test.YtndppbfdcceflaaGreatDoorRgh
import Derived.Deep.Slices
import Derived.Deep.Fields
import Derived.OpenShut
import Derived.ChangeSlices
import Derived.ChangeSame
import Derived.SizedLaws
namespace Go.Proofs.YtndppbfdcceflaaGreatDoor
open Go.RowKit

def prm2 (x s : GE) : Bool := (x.node.cap.kind == 1) && conR x.node.cap.rng s.node.cap.rng
set_option maxRecDepth 20000 in
set_option maxHeartbeats 1000000 in
theorem pPrm_any (x s : GV) (w : World) : Calls Tryz.prog 76 #[x.val, s.val] w fun e w' => e = .returned (.bool (prm2 x.e s.e)) ∧ Below w.heap.size w w' := by
  have HMX := Lib.hid fun W => pMem_any x W
  have HMY := Lib.hid fun W => pMem_any s W
  have HCC := Lib.hid fun W => pCon_any x.e.node.cap.rng s.e.node.cap.rng W
  have HR : Hid (prm2 x.e s.e = ((x.e.node.cap.kind == 1) && conR x.e.node.cap.rng s.e.node.cap.rng)) := Lib.hid rfl
  have HX0 := Lib.hid ((EB.new w x).next (belt (Below.refl _ _) (.cells s.cells.toArray 32)))
  have HY0 : Hid (EB ((w.alloc (.cells x.cells.toArray 32)).alloc (.cells s.cells.toArray 32)) (w.heap.size + 1) s) := Lib.hid (by
    have h := EB.new (w.alloc (.cells x.cells.toArray 32)) s
    have hz : (w.alloc (.cells x.cells.toArray 32)).heap.size = w.heap.size + 1 := by simp
    rw [hz] at h
    exact h)
  have HB0 := Lib.hid (show Below w.heap.size w ((w.alloc (.cells x.cells.toArray 32)).alloc (.cells s.cells.toArray 32)) from belt (belt (Below.refl _ w) _) _)
  simp only [GV.cells] at HB0 HX0 HY0
  generalize prm2 x.e s.e = q at *
  generalize conR x.e.node.cap.rng s.e.node.cap.rng = cn at *
  obtain ⟨⟨xc, xs', ⟨⟨i0, i1, i2⟩, xp, ⟨a0, a1, a2, a3, a4, a5, a6⟩⟩⟩, xA, xcp⟩ := x
  obtain ⟨⟨yc, ys', ⟨⟨j0, j1, j2⟩, yp, ⟨b0, b1, b2, b3, b4, b5, b6⟩⟩⟩, yA, ycp⟩ := s
  simp only [GV.val, GC.rng, GR.val] at *
  go_enter Tryz.func76, Tryz.ntmps76
  go_upto_region 1 with fail
  generalize (w.alloc (.cells #[.int .i64 xc, .int .i64 xs', .int .i64 i0, .int .i64 i1, .int .i64 i2, .slice xA xp.length xcp, .int .i64 a0, .int .i64 a1, .int .i64 a2, .int .i64 a3, .int .i64 a4, .int .i64 a5, .bool a6] 32)).alloc (.cells #[.int .i64 yc, .int .i64 ys', .int .i64 j0, .int .i64 j1, .int .i64 j2, .slice yA yp.length ycp, .int .i64 b0, .int .i64 b1, .int .i64 b2, .int .i64 b3, .int .i64 b4, .int .i64 b5, .bool b6] 32) = w1 at *
  obtain ⟨g0, g1, g2, g3, g4, g5, g6, g7, g8, g9, g10, g11, g12⟩ := EBc HX0.out
  obtain ⟨h0, h1, h2, h3, h4, h5, h6, h7, h8, h9, h10, h11, h12⟩ := EBc HY0.out
  have hgl := HX0.out.lt
  have hhl := HY0.out.lt
  simp only at g0 g1 g2 g3 g4 g5 g6 g7 g8 g9 g10 g11 g12 h0 h1 h2 h3 h4 h5 h6 h7 h8 h9 h10 h11 h12
  have hS : Below w1.heap.size w1 w1.drew := (Below.refl _ w1).drew
  clear HX0 HY0
  rcases hk : (a0 == 1) with _ | _
  · rw [hk, Bool.false_and] at HR
    obtain rfl := HR.out
    clear HR
    have hk2 : decide (a0 = 1) = false := hk
    refine wp_region_growS (S := fun W => Below w1.heap.size w1 W) [(0, true), (1, true), (2, true), (3, true), (4, true), (5, true), (6, true), (8, true), (7, false), (9, false), (10, false), (11, true), (12, true)] (by kernel_rfl) (by kernel_rfl) (by kernel_rfl) (by kernel_rfl) (by intro c a d v w h; cases d <;> exact h) hS ?_
    iterate 8
      (first
        | (refine wpGrowS_float (v := ?_) (by simp only [List.getElem?_toArray, List.getElem?_cons_succ, List.getElem?_cons_zero]; rfl) (by rfl) ?_ ?_
           rotate_left
           · (intro W hW; have t0 := (hW.cell (p := ⟨w.heap.size, 0, none⟩) hgl).trans g0; have t1 := (hW.cell (p := ⟨w.heap.size, 1, none⟩) hgl).trans g1; have t2 := (hW.cell (p := ⟨w.heap.size, 2, none⟩) hgl).trans g2; have t3 := (hW.cell (p := ⟨w.heap.size, 3, none⟩) hgl).trans g3; have t4 := (hW.cell (p := ⟨w.heap.size, 4, none⟩) hgl).trans g4; have t5 := (hW.cell (p := ⟨w.heap.size, 5, none⟩) hgl).trans g5; have t6 := (hW.cell (p := ⟨w.heap.size, 6, none⟩) hgl).trans g6; have t7 := (hW.cell (p := ⟨w.heap.size, 7, none⟩) hgl).trans g7; have t8 := (hW.cell (p := ⟨w.heap.size, 8, none⟩) hgl).trans g8; have t9 := (hW.cell (p := ⟨w.heap.size, 9, none⟩) hgl).trans g9; have t10 := (hW.cell (p := ⟨w.heap.size, 10, none⟩) hgl).trans g10; have t11 := (hW.cell (p := ⟨w.heap.size, 11, none⟩) hgl).trans g11; have t12 := (hW.cell (p := ⟨w.heap.size, 12, none⟩) hgl).trans g12; have u0 := (hW.cell (p := ⟨w.heap.size + 1, 0, none⟩) hhl).trans h0; have u1 := (hW.cell (p := ⟨w.heap.size + 1, 1, none⟩) hhl).trans h1; have u2 := (hW.cell (p := ⟨w.heap.size + 1, 2, none⟩) hhl).trans h2; have u3 := (hW.cell (p := ⟨w.heap.size + 1, 3, none⟩) hhl).trans h3; have u4 := (hW.cell (p := ⟨w.heap.size + 1, 4, none⟩) hhl).trans h4; have u5 := (hW.cell (p := ⟨w.heap.size + 1, 5, none⟩) hhl).trans h5; have u6 := (hW.cell (p := ⟨w.heap.size + 1, 6, none⟩) hhl).trans h6; have u7 := (hW.cell (p := ⟨w.heap.size + 1, 7, none⟩) hhl).trans h7; have u8 := (hW.cell (p := ⟨w.heap.size + 1, 8, none⟩) hhl).trans h8; have u9 := (hW.cell (p := ⟨w.heap.size + 1, 9, none⟩) hhl).trans h9; have u10 := (hW.cell (p := ⟨w.heap.size + 1, 10, none⟩) hhl).trans h10; have u11 := (hW.cell (p := ⟨w.heap.size + 1, 11, none⟩) hhl).trans h11; have u12 := (hW.cell (p := ⟨w.heap.size + 1, 12, none⟩) hhl).trans h12; (try simp only at *); go_simp; try with_reducible rfl)
           simp only [Act.put, List.setIfInBounds_toArray, List.set_cons_zero, List.set_cons_succ])
        | (refine wpGrowS_skip (by simp only [List.getElem?_toArray, List.getElem?_cons_succ, List.getElem?_cons_zero]; rfl) (by rfl) ?_
           simp only [Act.put, List.setIfInBounds_toArray, List.set_cons_zero, List.set_cons_succ]))
    refine wpGrowS_pass hS (by simp only [List.getElem?_toArray, List.getElem?_cons_succ, List.getElem?_cons_zero]; rfl) (by rfl) ?_
    try simp only [Act.put, List.setIfInBounds_toArray, List.set_cons_zero, List.set_cons_succ]
    refine wpGrowS_pass hS (by simp only [List.getElem?_toArray, List.getElem?_cons_succ, List.getElem?_cons_zero]; rfl) (by rfl) ?_
    try simp only [Act.put, List.setIfInBounds_toArray, List.set_cons_zero, List.set_cons_succ]
    refine wpGrowS_pass hS (by simp only [List.getElem?_toArray, List.getElem?_cons_succ, List.getElem?_cons_zero]; rfl) (by rfl) ?_
    try simp only [Act.put, List.setIfInBounds_toArray, List.set_cons_zero, List.set_cons_succ]
    iterate 2
      (first
        | (refine wpGrowS_float (v := ?_) (by simp only [List.getElem?_toArray, List.getElem?_cons_succ, List.getElem?_cons_zero]; rfl) (by rfl) ?_ ?_
           rotate_left
           · (intro W hW; have t0 := (hW.cell (p := ⟨w.heap.size, 0, none⟩) hgl).trans g0; have t1 := (hW.cell (p := ⟨w.heap.size, 1, none⟩) hgl).trans g1; have t2 := (hW.cell (p := ⟨w.heap.size, 2, none⟩) hgl).trans g2; have t3 := (hW.cell (p := ⟨w.heap.size, 3, none⟩) hgl).trans g3; have t4 := (hW.cell (p := ⟨w.heap.size, 4, none⟩) hgl).trans g4; have t5 := (hW.cell (p := ⟨w.heap.size, 5, none⟩) hgl).trans g5; have t6 := (hW.cell (p := ⟨w.heap.size, 6, none⟩) hgl).trans g6; have t7 := (hW.cell (p := ⟨w.heap.size, 7, none⟩) hgl).trans g7; have t8 := (hW.cell (p := ⟨w.heap.size, 8, none⟩) hgl).trans g8; have t9 := (hW.cell (p := ⟨w.heap.size, 9, none⟩) hgl).trans g9; have t10 := (hW.cell (p := ⟨w.heap.size, 10, none⟩) hgl).trans g10; have t11 := (hW.cell (p := ⟨w.heap.size, 11, none⟩) hgl).trans g11; have t12 := (hW.cell (p := ⟨w.heap.size, 12, none⟩) hgl).trans g12; have u0 := (hW.cell (p := ⟨w.heap.size + 1, 0, none⟩) hhl).trans h0; have u1 := (hW.cell (p := ⟨w.heap.size + 1, 1, none⟩) hhl).trans h1; have u2 := (hW.cell (p := ⟨w.heap.size + 1, 2, none⟩) hhl).trans h2; have u3 := (hW.cell (p := ⟨w.heap.size + 1, 3, none⟩) hhl).trans h3; have u4 := (hW.cell (p := ⟨w.heap.size + 1, 4, none⟩) hhl).trans h4; have u5 := (hW.cell (p := ⟨w.heap.size + 1, 5, none⟩) hhl).trans h5; have u6 := (hW.cell (p := ⟨w.heap.size + 1, 6, none⟩) hhl).trans h6; have u7 := (hW.cell (p := ⟨w.heap.size + 1, 7, none⟩) hhl).trans h7; have u8 := (hW.cell (p := ⟨w.heap.size + 1, 8, none⟩) hhl).trans h8; have u9 := (hW.cell (p := ⟨w.heap.size + 1, 9, none⟩) hhl).trans h9; have u10 := (hW.cell (p := ⟨w.heap.size + 1, 10, none⟩) hhl).trans h10; have u11 := (hW.cell (p := ⟨w.heap.size + 1, 11, none⟩) hhl).trans h11; have u12 := (hW.cell (p := ⟨w.heap.size + 1, 12, none⟩) hhl).trans h12; (try simp only at *); go_simp; try with_reducible rfl)
           simp only [Act.put, List.setIfInBounds_toArray, List.set_cons_zero, List.set_cons_succ])
        | (refine wpGrowS_skip (by simp only [List.getElem?_toArray, List.getElem?_cons_succ, List.getElem?_cons_zero]; rfl) (by rfl) ?_
           simp only [Act.put, List.setIfInBounds_toArray, List.set_cons_zero, List.set_cons_succ]))
    refine wpGrowS_nil ?_
    have HBF := Lib.hid (beln HB0.out hS)
    clear g0 g1 g2 g3 g4 g5 g6 g7 g8 g9 g10 g11 g12 h0 h1 h2 h3 h4 h5 h6 h7 h8 h9 h10 h11 h12 hS hk hk2
    go_wp2
    go_ret
    exact ⟨rfl, HBF.out⟩
  · rw [hk, Bool.true_and] at HR
    obtain rfl := HR.out
    clear HR
    have hk2 : decide (a0 = 1) = true := hk
    refine wp_region_growS (S := fun W => Below w1.heap.size w1 W) [(0, true), (1, true), (2, true), (3, true), (4, true), (5, true), (6, true), (8, true), (7, false), (9, false), (10, false), (11, true), (12, true)] (by kernel_rfl) (by kernel_rfl) (by kernel_rfl) (by kernel_rfl) (by intro c a d v w h; cases d <;> exact h) hS ?_
    iterate 8
      (first
        | (refine wpGrowS_float (v := ?_) (by simp only [List.getElem?_toArray, List.getElem?_cons_succ, List.getElem?_cons_zero]; rfl) (by rfl) ?_ ?_
           rotate_left
           · (intro W hW; have t0 := (hW.cell (p := ⟨w.heap.size, 0, none⟩) hgl).trans g0; have t1 := (hW.cell (p := ⟨w.heap.size, 1, none⟩) hgl).trans g1; have t2 := (hW.cell (p := ⟨w.heap.size, 2, none⟩) hgl).trans g2; have t3 := (hW.cell (p := ⟨w.heap.size, 3, none⟩) hgl).trans g3; have t4 := (hW.cell (p := ⟨w.heap.size, 4, none⟩) hgl).trans g4; have t5 := (hW.cell (p := ⟨w.heap.size, 5, none⟩) hgl).trans g5; have t6 := (hW.cell (p := ⟨w.heap.size, 6, none⟩) hgl).trans g6; have t7 := (hW.cell (p := ⟨w.heap.size, 7, none⟩) hgl).trans g7; have t8 := (hW.cell (p := ⟨w.heap.size, 8, none⟩) hgl).trans g8; have t9 := (hW.cell (p := ⟨w.heap.size, 9, none⟩) hgl).trans g9; have t10 := (hW.cell (p := ⟨w.heap.size, 10, none⟩) hgl).trans g10; have t11 := (hW.cell (p := ⟨w.heap.size, 11, none⟩) hgl).trans g11; have t12 := (hW.cell (p := ⟨w.heap.size, 12, none⟩) hgl).trans g12; have u0 := (hW.cell (p := ⟨w.heap.size + 1, 0, none⟩) hhl).trans h0; have u1 := (hW.cell (p := ⟨w.heap.size + 1, 1, none⟩) hhl).trans h1; have u2 := (hW.cell (p := ⟨w.heap.size + 1, 2, none⟩) hhl).trans h2; have u3 := (hW.cell (p := ⟨w.heap.size + 1, 3, none⟩) hhl).trans h3; have u4 := (hW.cell (p := ⟨w.heap.size + 1, 4, none⟩) hhl).trans h4; have u5 := (hW.cell (p := ⟨w.heap.size + 1, 5, none⟩) hhl).trans h5; have u6 := (hW.cell (p := ⟨w.heap.size + 1, 6, none⟩) hhl).trans h6; have u7 := (hW.cell (p := ⟨w.heap.size + 1, 7, none⟩) hhl).trans h7; have u8 := (hW.cell (p := ⟨w.heap.size + 1, 8, none⟩) hhl).trans h8; have u9 := (hW.cell (p := ⟨w.heap.size + 1, 9, none⟩) hhl).trans h9; have u10 := (hW.cell (p := ⟨w.heap.size + 1, 10, none⟩) hhl).trans h10; have u11 := (hW.cell (p := ⟨w.heap.size + 1, 11, none⟩) hhl).trans h11; have u12 := (hW.cell (p := ⟨w.heap.size + 1, 12, none⟩) hhl).trans h12; (try simp only at *); go_simp; try with_reducible rfl)
           simp only [Act.put, List.setIfInBounds_toArray, List.set_cons_zero, List.set_cons_succ])
        | (refine wpGrowS_skip (by simp only [List.getElem?_toArray, List.getElem?_cons_succ, List.getElem?_cons_zero]; rfl) (by rfl) ?_
           simp only [Act.put, List.setIfInBounds_toArray, List.set_cons_zero, List.set_cons_succ]))
    refine wpGrowS_call (by simp only [List.getElem?_toArray, List.getElem?_cons_succ, List.getElem?_cons_zero]; rfl) (by rfl) fun K hK => ?_
    go_simp
    go_fit (HMX.out _)
    rintro e wn ⟨rfl, hbn⟩
    have hSa := beln hS hbn
    clear hbn
    go_simp
    refine hK _ _ hSa ?_
    clear hK K
    try simp only [Act.put, List.setIfInBounds_toArray, List.set_cons_zero, List.set_cons_succ]
    refine wpGrowS_call (by simp only [List.getElem?_toArray, List.getElem?_cons_succ, List.getElem?_cons_zero]; rfl) (by rfl) fun K hK => ?_
    go_simp
    go_fit (HMY.out _)
    rintro e wn ⟨rfl, hbn⟩
    have hSb := beln hSa hbn
    clear hbn
    go_simp
    refine hK _ _ hSb ?_
    clear hK K
    try simp only [Act.put, List.setIfInBounds_toArray, List.set_cons_zero, List.set_cons_succ]
    refine wpGrowS_call (by simp only [List.getElem?_toArray, List.getElem?_cons_succ, List.getElem?_cons_zero]; rfl) (by rfl) fun K hK => ?_
    go_simp
    go_fit (HCC.out _)
    rintro e wn ⟨rfl, hbn⟩
    have hSc := beln hSb hbn
    clear hbn
    go_simp
    refine hK _ _ hSc ?_
    clear hK K
    try simp only [Act.put, List.setIfInBounds_toArray, List.set_cons_zero, List.set_cons_succ]
    iterate 2
      (first
        | (refine wpGrowS_float (v := ?_) (by simp only [List.getElem?_toArray, List.getElem?_cons_succ, List.getElem?_cons_zero]; rfl) (by rfl) ?_ ?_
           rotate_left
           · (intro W hW; have t0 := (hW.cell (p := ⟨w.heap.size, 0, none⟩) hgl).trans g0; have t1 := (hW.cell (p := ⟨w.heap.size, 1, none⟩) hgl).trans g1; have t2 := (hW.cell (p := ⟨w.heap.size, 2, none⟩) hgl).trans g2; have t3 := (hW.cell (p := ⟨w.heap.size, 3, none⟩) hgl).trans g3; have t4 := (hW.cell (p := ⟨w.heap.size, 4, none⟩) hgl).trans g4; have t5 := (hW.cell (p := ⟨w.heap.size, 5, none⟩) hgl).trans g5; have t6 := (hW.cell (p := ⟨w.heap.size, 6, none⟩) hgl).trans g6; have t7 := (hW.cell (p := ⟨w.heap.size, 7, none⟩) hgl).trans g7; have t8 := (hW.cell (p := ⟨w.heap.size, 8, none⟩) hgl).trans g8; have t9 := (hW.cell (p := ⟨w.heap.size, 9, none⟩) hgl).trans g9; have t10 := (hW.cell (p := ⟨w.heap.size, 10, none⟩) hgl).trans g10; have t11 := (hW.cell (p := ⟨w.heap.size, 11, none⟩) hgl).trans g11; have t12 := (hW.cell (p := ⟨w.heap.size, 12, none⟩) hgl).trans g12; have u0 := (hW.cell (p := ⟨w.heap.size + 1, 0, none⟩) hhl).trans h0; have u1 := (hW.cell (p := ⟨w.heap.size + 1, 1, none⟩) hhl).trans h1; have u2 := (hW.cell (p := ⟨w.heap.size + 1, 2, none⟩) hhl).trans h2; have u3 := (hW.cell (p := ⟨w.heap.size + 1, 3, none⟩) hhl).trans h3; have u4 := (hW.cell (p := ⟨w.heap.size + 1, 4, none⟩) hhl).trans h4; have u5 := (hW.cell (p := ⟨w.heap.size + 1, 5, none⟩) hhl).trans h5; have u6 := (hW.cell (p := ⟨w.heap.size + 1, 6, none⟩) hhl).trans h6; have u7 := (hW.cell (p := ⟨w.heap.size + 1, 7, none⟩) hhl).trans h7; have u8 := (hW.cell (p := ⟨w.heap.size + 1, 8, none⟩) hhl).trans h8; have u9 := (hW.cell (p := ⟨w.heap.size + 1, 9, none⟩) hhl).trans h9; have u10 := (hW.cell (p := ⟨w.heap.size + 1, 10, none⟩) hhl).trans h10; have u11 := (hW.cell (p := ⟨w.heap.size + 1, 11, none⟩) hhl).trans h11; have u12 := (hW.cell (p := ⟨w.heap.size + 1, 12, none⟩) hhl).trans h12; (try simp only at *); go_simp; try with_reducible rfl)
           simp only [Act.put, List.setIfInBounds_toArray, List.set_cons_zero, List.set_cons_succ])
        | (refine wpGrowS_skip (by simp only [List.getElem?_toArray, List.getElem?_cons_succ, List.getElem?_cons_zero]; rfl) (by rfl) ?_
           simp only [Act.put, List.setIfInBounds_toArray, List.set_cons_zero, List.set_cons_succ]))
    refine wpGrowS_nil ?_
    have HBF := Lib.hid (beln HB0.out hSc)
    clear g0 g1 g2 g3 g4 g5 g6 g7 g8 g9 g10 g11 g12 h0 h1 h2 h3 h4 h5 h6 h7 h8 h9 h10 h11 h12 hS hSa hSb hSc hk hk2
    go_wp2
    go_ret
    exact ⟨rfl, HBF.out⟩
set_option maxRecDepth 20000 in
set_option maxHeartbeats 1000000 in
theorem cOv_any (c : GC) (g : Nat) (x : GV) (w : World) (hg : EB w g x) : Calls Tryz.prog 78 #[c.val, .pointer (some ⟨g, 0, none⟩)] w fun e w' => e = .returned (.bool (ovR c.rng x.e.node.cap.rng)) ∧ Below w.heap.size w w' := by
  have HRC := Lib.hid fun W => pRng_any c W
  have HMX := Lib.hid fun W => pMem_any x W
  have HOV := Lib.hid fun W => pOv_any c.rng x.e.node.cap.rng W
  have HC0 := Lib.hid (CB.new w c)
  have HX0 := Lib.hid (hg.next (belt (Below.refl _ w) (.cells c.cells.toArray 28)))
  have HB0 := Lib.hid (show Below w.heap.size w (w.alloc (.cells c.cells.toArray 28)) from belt (Below.refl _ w) _)
  simp only [GC.cells] at HB0 HX0
  clear hg
  generalize ovR c.rng x.e.node.cap.rng = q at *
  obtain ⟨⟨xc, xs', ⟨⟨i0, i1, i2⟩, xp, ⟨a0, a1, a2, a3, a4, a5, a6⟩⟩⟩, xA, xcp⟩ := x
  obtain ⟨d0, d1, d2, d3, d4, d5, d6⟩ := c
  simp only [GV.val, GC.val, GC.rng, GR.val] at *
  go_enter Tryz.func78, Tryz.ntmps78
  go_upto_region 1 with fail
  generalize w.alloc (.cells #[.int .i64 d0, .int .i64 d1, .int .i64 d2, .int .i64 d3, .int .i64 d4, .int .i64 d5, .bool d6] 28) = w1 at *
  obtain ⟨g0, g1, g2, g3, g4, g5, g6, g7, g8, g9, g10, g11, g12⟩ := EBc HX0.out
  have hgl := HX0.out.lt
  obtain ⟨c0, c1, c2, c3, c4, c5, c6⟩ := HC0.out.cells
  have hcl := HC0.out.lt
  simp only at g0 g1 g2 g3 g4 g5 g6 g7 g8 g9 g10 g11 g12 c0 c1 c2 c3 c4 c5 c6
  have hS : Below w1.heap.size w1 w1.drew := (Below.refl _ w1).drew
  clear HX0 HC0
  refine wp_region_growS (S := fun W => Below w1.heap.size w1 W) [(0, true), (2, true), (1, false), (3, false), (4, false), (5, true)] (by kernel_rfl) (by kernel_rfl) (by kernel_rfl) (by kernel_rfl) (by intro c a d v w h; cases d <;> exact h) hS ?_
  iterate 2
    (first
      | (refine wpGrowS_float (v := ?_) (by simp only [List.getElem?_toArray, List.getElem?_cons_succ, List.getElem?_cons_zero]; rfl) (by rfl) ?_ ?_
         rotate_left
         · (intro W hW; have t0 := (hW.cell (p := ⟨w.heap.size, 0, none⟩) hcl).trans c0; have t1 := (hW.cell (p := ⟨w.heap.size, 1, none⟩) hcl).trans c1; have t2 := (hW.cell (p := ⟨w.heap.size, 2, none⟩) hcl).trans c2; have t3 := (hW.cell (p := ⟨w.heap.size, 3, none⟩) hcl).trans c3; have t4 := (hW.cell (p := ⟨w.heap.size, 4, none⟩) hcl).trans c4; have t5 := (hW.cell (p := ⟨w.heap.size, 5, none⟩) hcl).trans c5; have t6 := (hW.cell (p := ⟨w.heap.size, 6, none⟩) hcl).trans c6; have u0 := (hW.cell (p := ⟨g, 0, none⟩) hgl).trans g0; have u1 := (hW.cell (p := ⟨g, 1, none⟩) hgl).trans g1; have u2 := (hW.cell (p := ⟨g, 2, none⟩) hgl).trans g2; have u3 := (hW.cell (p := ⟨g, 3, none⟩) hgl).trans g3; have u4 := (hW.cell (p := ⟨g, 4, none⟩) hgl).trans g4; have u5 := (hW.cell (p := ⟨g, 5, none⟩) hgl).trans g5; have u6 := (hW.cell (p := ⟨g, 6, none⟩) hgl).trans g6; have u7 := (hW.cell (p := ⟨g, 7, none⟩) hgl).trans g7; have u8 := (hW.cell (p := ⟨g, 8, none⟩) hgl).trans g8; have u9 := (hW.cell (p := ⟨g, 9, none⟩) hgl).trans g9; have u10 := (hW.cell (p := ⟨g, 10, none⟩) hgl).trans g10; have u11 := (hW.cell (p := ⟨g, 11, none⟩) hgl).trans g11; have u12 := (hW.cell (p := ⟨g, 12, none⟩) hgl).trans g12; (try simp only at *); go_simp; try with_reducible rfl)
         simp only [Act.put, List.setIfInBounds_toArray, List.set_cons_zero, List.set_cons_succ])
      | (refine wpGrowS_skip (by simp only [List.getElem?_toArray, List.getElem?_cons_succ, List.getElem?_cons_zero]; rfl) (by rfl) ?_
         simp only [Act.put, List.setIfInBounds_toArray, List.set_cons_zero, List.set_cons_succ]))
  refine wpGrowS_call (by simp only [List.getElem?_toArray, List.getElem?_cons_succ, List.getElem?_cons_zero]; rfl) (by rfl) fun K hK => ?_
  go_simp
  go_fit (HRC.out _)
  rintro e wn ⟨rfl, hbn⟩
  have hSa := beln hS hbn
  clear hbn
  go_simp
  refine hK _ _ hSa ?_
  clear hK K
  try simp only [Act.put, List.setIfInBounds_toArray, List.set_cons_zero, List.set_cons_succ]
  refine wpGrowS_call (by simp only [List.getElem?_toArray, List.getElem?_cons_succ, List.getElem?_cons_zero]; rfl) (by rfl) fun K hK => ?_
  go_simp
  go_fit (HMX.out _)
  rintro e wn ⟨rfl, hbn⟩
  have hSb := beln hSa hbn
  clear hbn
  go_simp
  refine hK _ _ hSb ?_
  clear hK K
  try simp only [Act.put, List.setIfInBounds_toArray, List.set_cons_zero, List.set_cons_succ]
  refine wpGrowS_call (by simp only [List.getElem?_toArray, List.getElem?_cons_succ, List.getElem?_cons_zero]; rfl) (by rfl) fun K hK => ?_
  go_simp
  go_fit (HOV.out _)
  rintro e wn ⟨rfl, hbn⟩
  have hSc := beln hSb hbn
  clear hbn
  go_simp
  refine hK _ _ hSc ?_
  clear hK K
  try simp only [Act.put, List.setIfInBounds_toArray, List.set_cons_zero, List.set_cons_succ]
  iterate 1
    (first
      | (refine wpGrowS_float (v := ?_) (by simp only [List.getElem?_toArray, List.getElem?_cons_succ, List.getElem?_cons_zero]; rfl) (by rfl) ?_ ?_
         rotate_left
         · (intro W hW; have t0 := (hW.cell (p := ⟨w.heap.size, 0, none⟩) hcl).trans c0; have t1 := (hW.cell (p := ⟨w.heap.size, 1, none⟩) hcl).trans c1; have t2 := (hW.cell (p := ⟨w.heap.size, 2, none⟩) hcl).trans c2; have t3 := (hW.cell (p := ⟨w.heap.size, 3, none⟩) hcl).trans c3; have t4 := (hW.cell (p := ⟨w.heap.size, 4, none⟩) hcl).trans c4; have t5 := (hW.cell (p := ⟨w.heap.size, 5, none⟩) hcl).trans c5; have t6 := (hW.cell (p := ⟨w.heap.size, 6, none⟩) hcl).trans c6; have u0 := (hW.cell (p := ⟨g, 0, none⟩) hgl).trans g0; have u1 := (hW.cell (p := ⟨g, 1, none⟩) hgl).trans g1; have u2 := (hW.cell (p := ⟨g, 2, none⟩) hgl).trans g2; have u3 := (hW.cell (p := ⟨g, 3, none⟩) hgl).trans g3; have u4 := (hW.cell (p := ⟨g, 4, none⟩) hgl).trans g4; have u5 := (hW.cell (p := ⟨g, 5, none⟩) hgl).trans g5; have u6 := (hW.cell (p := ⟨g, 6, none⟩) hgl).trans g6; have u7 := (hW.cell (p := ⟨g, 7, none⟩) hgl).trans g7; have u8 := (hW.cell (p := ⟨g, 8, none⟩) hgl).trans g8; have u9 := (hW.cell (p := ⟨g, 9, none⟩) hgl).trans g9; have u10 := (hW.cell (p := ⟨g, 10, none⟩) hgl).trans g10; have u11 := (hW.cell (p := ⟨g, 11, none⟩) hgl).trans g11; have u12 := (hW.cell (p := ⟨g, 12, none⟩) hgl).trans g12; (try simp only at *); go_simp; try with_reducible rfl)
         simp only [Act.put, List.setIfInBounds_toArray, List.set_cons_zero, List.set_cons_succ])
      | (refine wpGrowS_skip (by simp only [List.getElem?_toArray, List.getElem?_cons_succ, List.getElem?_cons_zero]; rfl) (by rfl) ?_
         simp only [Act.put, List.setIfInBounds_toArray, List.set_cons_zero, List.set_cons_succ]))
  refine wpGrowS_nil ?_
  have HBF := Lib.hid (beln HB0.out hSc)
  clear g0 g1 g2 g3 g4 g5 g6 g7 g8 g9 g10 g11 g12 hS hSa hSb hSc c0 c1 c2 c3 c4 c5 c6
  go_wp2
  go_ret
  exact ⟨rfl, HBF.out⟩
set_option maxRecDepth 20000 in
set_option maxHeartbeats 1000000 in
theorem idxOv_any (p : GC → Bool) (c1 : Value) (xs : List GC) (A : Option Addr) (c : Nat) (w : World) (h1 : GRow GC.cells 7 w w.heap.size A xs) (hl : xs.length ≤ 17179869184)
    (hF : ∀ W, Below w.heap.size w W → ∀ k (hk : k < xs.length), Calls Tryz.prog 78 #[xs[k].val, c1] W fun e W' => e = .returned (.bool (p xs[k])) ∧ Below W.heap.size W W') :
    Calls Tryz.prog 110 #[.slice A xs.length c, .func (.func 78) #[] #[c1]] w fun e w' => e = .returned (.int .i64 (fidx p (xs))) ∧ Below w.heap.size w w' := by
  have H1 := Lib.hid h1
  have HQ1 : Hid (∀ k (hk : k < xs.length), (∀ j (hj : j < xs.length), j < k → p xs[j] = false) → p xs[k] = true → fidx p xs = k) := Lib.hid fun k hk h0 h1 => fidx_found hk h0 h1
  have HQ2 : Hid ((∀ j (hj : j < xs.length), p xs[j] = false) → fidx p xs = -1) := Lib.hid fun h => fidx_none h
  have HF := Lib.hid hF
  generalize fidx p xs = q at *
  clear h1 hF
  go_enter Tryz.func110, Tryz.ntmps110
  go_wp2
  go_loopw [8] (fun vi wr => ∃ k : Nat, vi = .int .i64 k ∧ k ≤ xs.length ∧ Hid (∀ j (hj : j < xs.length), j < k → p xs[j] = false) ∧ Hid (Below w.heap.size w wr)) (fun vi _ => xs.length - (intOf vi).toNat)
  case atStart => exact ⟨0, rfl, Nat.zero_le _, Lib.hid fun j _ hj => absurd hj (by omega), Lib.hid (Below.refl _ _)⟩
  case round =>
    obtain ⟨k, rfl, hk, HT, HB⟩ := hrel
    rcases Nat.lt_or_ge k xs.length with hlt | hge
    · obtain ⟨b1, o1, rfl, hb1, x0, x1, x2, x3, x4, x5, x6⟩ := (H1.out.next HB.out).capZ hlt
      have HFK := Lib.hid (HF.out wr HB.out k hlt)
      have HPK : Hid (∀ b, p xs[k] = b → (b = true → q = k) ∧ (b = false → ∀ j (hj : j < xs.length), j < k + 1 → p xs[j] = false)) := Lib.hid fun b hb => ⟨fun e => HQ1.out k hlt (fun j hj hjk => HT.out j hj hjk) (by rw [hb, e]), fun e j hj hjk => by
        rcases Nat.lt_or_ge j k with h | h
        · exact HT.out j hj h
        · obtain rfl : j = k := by omega
          rw [hb, e]⟩
      unfold GC.val at HFK
      generalize p xs[k] = b at *
      generalize xs[k] = x at *
      obtain ⟨a0, a1, a2, a3, a4, a5, a6⟩ := x
      simp only at x0 x1 x2 x3 x4 x5 x6 HFK
      clear HT
      go_wp2_with fail
      go_fit HFK.out
      rintro e w2 ⟨rfl, hb2⟩
      have HB2 := Lib.hid (beln HB.out hb2)
      clear hb2 x0 x1 x2 x3 x4 x5 x6 HFK
      obtain ⟨h1, h2⟩ := HPK.out b rfl
      rcases b with _ | _
      · have HT2 := Lib.hid (h2 rfl)
        clear h1 h2 HPK
        go_wp2
        go_roundw
        case rel => exact ⟨k + 1, by go_num, by omega, HT2, HB2⟩
        case measure => simp [intOf]; omega
      · have HF2 := Lib.hid (h1 rfl)
        clear h1 h2 HPK
        go_wp2
        go_ret
        exact ⟨congrArg (fun b => Ending.returned (Value.int .i64 b)) HF2.out.symm, HB2.out⟩
    · have HF2 : Hid (q = -1) := Lib.hid (HQ2.out fun j hj => HT.out j hj (by omega))
      go_wp2
      go_ret
      exact ⟨congrArg (fun b => Ending.returned (Value.int .i64 b)) HF2.out.symm, HB.out⟩
theorem fidx_any {α : Type} (p : α → Bool) (l : List α) : decide (0 ≤ fidx p l) = l.any p := by
  rw [Bool.eq_iff_iff, decide_eq_true_eq, fidx_iff, List.any_eq_true]
set_option maxRecDepth 20000 in
theorem conOv_any (p : GC → Bool) (c1 : Value) (xs : List GC) (A : Option Addr) (c : Nat) (w : World) (h1 : GRow GC.cells 7 w w.heap.size A xs) (hl : xs.length ≤ 17179869184)
    (hF : ∀ W, Below w.heap.size w W → ∀ k (hk : k < xs.length), Calls Tryz.prog 78 #[xs[k].val, c1] W fun e W' => e = .returned (.bool (p xs[k])) ∧ Below W.heap.size W W') :
    Calls Tryz.prog 77 #[.slice A xs.length c, .func (.func 78) #[] #[c1]] w fun e w' => e = .returned (.bool (xs.any p)) ∧ Below w.heap.size w w' := by
  have HI := Lib.hid (idxOv_any p c1 xs A c w h1 hl hF)
  have HQ := Lib.hid (fidx_any p xs)
  generalize fidx p xs = r at *
  generalize xs.any p = q at *
  clear h1 hF
  go_enter Tryz.func77, Tryz.ntmps77
  go_wp2_with fail
  go_fit HI.out
  rintro e w2 ⟨rfl, hb2⟩
  have HB2 := Lib.hid hb2
  have hq := HQ.out
  clear hb2 HI
  go_wp2
  go_ret
  exact ⟨rfl, HB2.out⟩
end Go.Proofs.YtndppbfdcceflaaGreatDoor


namespace Go.Proofs.YtndppbfdcceflaaGreatDoor
open Go.RowKit

def CSx (W : World) (N : Nat) (A : Option Addr) (n c : Nat) : Prop := W.heap[N]? = some (.cells #[.slice A n c] 56 (0, 0))
theorem CSx.lt {W : World} {N : Nat} {A : Option Addr} {n c : Nat} (h : CSx W N A n c) : N < W.heap.size := by
  rcases Nat.lt_or_ge N W.heap.size with h1 | h1
  · exact h1
  · unfold CSx at h; rw [Array.getElem?_eq_none h1] at h; cases h
theorem CSx.next {W W' : World} {N : Nat} {A : Option Addr} {n c : Nat} (h : CSx W N A n c) (hb : Below W.heap.size W W') : CSx W' N A n c := (hb.block N h.lt).trans h
theorem CSx.new (w : World) (A : Option Addr) (n c : Nat) : CSx (w.alloc (.cells #[.slice A n c] 56)) w.heap.size A n c := heap_alloc_new w _
theorem CSx.cell {W : World} {N : Nat} {A : Option Addr} {n c : Nat} (h : CSx W N A n c) : W.cell? ⟨N, 0, none⟩ = some (.slice A n c) := by unfold CSx at h; rw [Lib.cell_of_heap h]; rfl
def BBx (W : World) (N : Nat) (b : Bool) : Prop := W.heap[N]? = some (.cells #[.bool b] 4 (0, 0))
theorem BBx.lt {W : World} {N : Nat} {b : Bool} (h : BBx W N b) : N < W.heap.size := by
  rcases Nat.lt_or_ge N W.heap.size with h1 | h1
  · exact h1
  · unfold BBx at h; rw [Array.getElem?_eq_none h1] at h; cases h
theorem BBx.next {W W' : World} {N : Nat} {b : Bool} (h : BBx W N b) (hb : Below W.heap.size W W') : BBx W' N b := (hb.block N h.lt).trans h
theorem BBx.new (w : World) (b : Bool) : BBx (w.alloc (.cells #[.bool b] 4)) w.heap.size b := heap_alloc_new w _
theorem BBx.cell {W : World} {N : Nat} {b : Bool} (h : BBx W N b) : W.cell? ⟨N, 0, none⟩ = some (.bool b) := by unfold BBx at h; rw [Lib.cell_of_heap h]; rfl
def IBx (W : World) (N : Nat) (k : Int) : Prop := W.heap[N]? = some (.cells #[.int .i64 k] 3 (0, 0))
theorem IBx.lt {W : World} {N : Nat} {k : Int} (h : IBx W N k) : N < W.heap.size := by
  rcases Nat.lt_or_ge N W.heap.size with h1 | h1
  · exact h1
  · unfold IBx at h; rw [Array.getElem?_eq_none h1] at h; cases h
theorem IBx.next {W W' : World} {N : Nat} {k : Int} (h : IBx W N k) (hb : Below W.heap.size W W') : IBx W' N k := (hb.block N h.lt).trans h
theorem IBx.new (w : World) (k : Int) : IBx (w.alloc (.cells #[.int .i64 k] 3)) w.heap.size k := heap_alloc_new w _
theorem IBx.cell {W : World} {N : Nat} {k : Int} (h : IBx W N k) : W.cell? ⟨N, 0, none⟩ = some (.int .i64 k) := by unfold IBx at h; rw [Lib.cell_of_heap h]; rfl

set_option maxRecDepth 20000 in
set_option maxHeartbeats 1000000 in
theorem cCon_any (xs : List GV) (A : Option Addr) (c : Nat) (cs : List GC) (B : Option Addr) (d : Nat) (ok : Bool) (ni : Int) (b : Bool) (q1 q2 q3 q4 : Nat) (x : GV) (w : World)
    (h1 : GRow GV.cells 13 w w.heap.size A xs) (hc : GRow GC.cells 7 w w.heap.size B cs) (hl : cs.length ≤ 100000) (hr : (ok = false ∧ b = false) ∨ (ok = true ∧ ∃ n : Nat, ni = n ∧ ∃ hn : n < xs.length, prm2 x.e xs[n].e = b))
    (hx1 : BBx w q1 ok) (hx2 : SBx w q2 A xs.length c) (hx3 : IBx w q3 ni) (hx4 : CSx w q4 B cs.length d) :
    Calls Tryz.prog 75 #[x.val, .pointer (some ⟨q1, 0, none⟩), .pointer (some ⟨q2, 0, none⟩), .pointer (some ⟨q3, 0, none⟩), .pointer (some ⟨q4, 0, none⟩)] w
      fun e w' => e = .returned (.bool (!b && cs.any fun y => ovR y.rng x.e.node.cap.rng)) ∧ Below w.heap.size w w' := by
  have HCO := Lib.hid fun W (hW : Below w.heap.size w W) (hg : EB W w.heap.size x) => conOv_any (fun y => ovR y.rng x.e.node.cap.rng) (.pointer (some ⟨w.heap.size, 0, none⟩)) cs B d W (hc.next hW) (by omega) fun W' hW' k hk => cOv_any cs[k] w.heap.size x W' (hg.next hW')
  have HPQ := Lib.hid fun s W => pPrm_any x s W
  have HE1 := Lib.hid (EB.new w x)
  have HB0 := Lib.hid (show Below w.heap.size w (w.alloc (.cells x.cells.toArray 32)) from belt (Below.refl _ w) _)
  have hn1 := hx1.next HB0.out
  have hn2 := hx2.next HB0.out
  have hn3 := hx3.next HB0.out
  have hn4 := hx4.next HB0.out
  have h1 := h1.next HB0.out
  simp only [GV.cells] at HB0 h1 hn1 hn2 hn3 hn4
  have k1 := hn1.cell
  have k2 := hn2.cell
  have k3 := hn3.cell
  have k4 := hn4.cell
  have hq1 := hn1.lt
  have hq2 := hn2.lt
  have hq3 := hn3.lt
  have hq4 := hn4.lt
  clear hn1 hn2 hn3 hn4 hx1 hx2 hx3 hx4 hc hl
  generalize (cs.any fun y => ovR y.rng x.e.node.cap.rng) = q at *
  generalize hR : (!b && q) = R
  replace hR := Lib.hid hR
  obtain ⟨⟨xc, xs', ⟨⟨i0, i1, i2⟩, xp, ⟨a0, a1, a2, a3, a4, a5, a6⟩⟩⟩, xA, xcp⟩ := x
  simp only [GV.val] at HCO HE1 HB0 h1 k1 k2 k3 k4 hq1 hq2 hq3 hq4 ⊢
  go_enter Tryz.func75, Tryz.ntmps75
  go_upto_region 1 with fail
  generalize w.alloc (.cells #[.int .i64 xc, .int .i64 xs', .int .i64 i0, .int .i64 i1, .int .i64 i2, .slice xA xp.length xcp, .int .i64 a0, .int .i64 a1, .int .i64 a2, .int .i64 a3, .int .i64 a4, .int .i64 a5, .bool a6] 32) = w1 at *
  obtain ⟨g0, g1, g2, g3, g4, g5, g6, g7, g8, g9, g10, g11, g12⟩ := EBc HE1.out
  have hgl := HE1.out.lt
  simp only at g0 g1 g2 g3 g4 g5 g6 g7 g8 g9 g10 g11 g12
  have hS : Below w1.heap.size w1 w1.drew := (Below.refl _ w1).drew
  rcases hr with ⟨rfl, rfl⟩ | ⟨rfl, n, rfl, hn, hb⟩
  · obtain rfl : R = q := by rw [← hR.out]; simp
    clear hR
    refine wp_region_growS (S := fun W => Below w1.heap.size w1 W) [(0, true), (1, true), (2, true), (3, true), (4, true), (5, true), (6, true), (7, false), (8, true)] (by kernel_rfl) (by kernel_rfl) (by kernel_rfl) (by kernel_rfl) (by intro c a d v w h; cases d <;> exact h) hS ?_
    iterate 7
      (first
        | (refine wpGrowS_float (v := ?_) (by simp only [List.getElem?_toArray, List.getElem?_cons_succ, List.getElem?_cons_zero]; rfl) (by rfl) ?_ ?_
           rotate_left
           · (intro W hW; have t0 := (hW.cell (p := ⟨w.heap.size, 0, none⟩) hgl).trans g0; have t1 := (hW.cell (p := ⟨w.heap.size, 1, none⟩) hgl).trans g1; have t2 := (hW.cell (p := ⟨w.heap.size, 2, none⟩) hgl).trans g2; have t3 := (hW.cell (p := ⟨w.heap.size, 3, none⟩) hgl).trans g3; have t4 := (hW.cell (p := ⟨w.heap.size, 4, none⟩) hgl).trans g4; have t5 := (hW.cell (p := ⟨w.heap.size, 5, none⟩) hgl).trans g5; have t6 := (hW.cell (p := ⟨w.heap.size, 6, none⟩) hgl).trans g6; have t7 := (hW.cell (p := ⟨w.heap.size, 7, none⟩) hgl).trans g7; have t8 := (hW.cell (p := ⟨w.heap.size, 8, none⟩) hgl).trans g8; have t9 := (hW.cell (p := ⟨w.heap.size, 9, none⟩) hgl).trans g9; have t10 := (hW.cell (p := ⟨w.heap.size, 10, none⟩) hgl).trans g10; have t11 := (hW.cell (p := ⟨w.heap.size, 11, none⟩) hgl).trans g11; have t12 := (hW.cell (p := ⟨w.heap.size, 12, none⟩) hgl).trans g12; have u1 := (hW.cell (p := ⟨q1, 0, none⟩) hq1).trans k1; have u2 := (hW.cell (p := ⟨q2, 0, none⟩) hq2).trans k2; have u3 := (hW.cell (p := ⟨q3, 0, none⟩) hq3).trans k3; (try simp only at *); go_simp; try with_reducible rfl)
           simp only [Act.put, List.setIfInBounds_toArray, List.set_cons_zero, List.set_cons_succ])
        | (refine wpGrowS_skip (by simp only [List.getElem?_toArray, List.getElem?_cons_succ, List.getElem?_cons_zero]; rfl) (by rfl) ?_
           simp only [Act.put, List.setIfInBounds_toArray, List.set_cons_zero, List.set_cons_succ]))
    refine wpGrowS_pass hS (by simp only [List.getElem?_toArray, List.getElem?_cons_succ, List.getElem?_cons_zero]; rfl) (by rfl) ?_
    try simp only [Act.put, List.setIfInBounds_toArray, List.set_cons_zero, List.set_cons_succ]
    iterate 1
      (first
        | (refine wpGrowS_float (v := ?_) (by simp only [List.getElem?_toArray, List.getElem?_cons_succ, List.getElem?_cons_zero]; rfl) (by rfl) ?_ ?_
           rotate_left
           · (intro W hW; have t0 := (hW.cell (p := ⟨w.heap.size, 0, none⟩) hgl).trans g0; have t1 := (hW.cell (p := ⟨w.heap.size, 1, none⟩) hgl).trans g1; have t2 := (hW.cell (p := ⟨w.heap.size, 2, none⟩) hgl).trans g2; have t3 := (hW.cell (p := ⟨w.heap.size, 3, none⟩) hgl).trans g3; have t4 := (hW.cell (p := ⟨w.heap.size, 4, none⟩) hgl).trans g4; have t5 := (hW.cell (p := ⟨w.heap.size, 5, none⟩) hgl).trans g5; have t6 := (hW.cell (p := ⟨w.heap.size, 6, none⟩) hgl).trans g6; have t7 := (hW.cell (p := ⟨w.heap.size, 7, none⟩) hgl).trans g7; have t8 := (hW.cell (p := ⟨w.heap.size, 8, none⟩) hgl).trans g8; have t9 := (hW.cell (p := ⟨w.heap.size, 9, none⟩) hgl).trans g9; have t10 := (hW.cell (p := ⟨w.heap.size, 10, none⟩) hgl).trans g10; have t11 := (hW.cell (p := ⟨w.heap.size, 11, none⟩) hgl).trans g11; have t12 := (hW.cell (p := ⟨w.heap.size, 12, none⟩) hgl).trans g12; have u1 := (hW.cell (p := ⟨q1, 0, none⟩) hq1).trans k1; have u2 := (hW.cell (p := ⟨q2, 0, none⟩) hq2).trans k2; have u3 := (hW.cell (p := ⟨q3, 0, none⟩) hq3).trans k3; (try simp only at *); go_simp; try with_reducible rfl)
           simp only [Act.put, List.setIfInBounds_toArray, List.set_cons_zero, List.set_cons_succ])
        | (refine wpGrowS_skip (by simp only [List.getElem?_toArray, List.getElem?_cons_succ, List.getElem?_cons_zero]; rfl) (by rfl) ?_
           simp only [Act.put, List.setIfInBounds_toArray, List.set_cons_zero, List.set_cons_succ]))
    refine wpGrowS_nil ?_
    have z4 := (hS.cell (p := ⟨q4, 0, none⟩) hq4).trans k4
    have HBK := Lib.hid (beln HB0.out hS)
    have HEK := Lib.hid (HE1.out.next hS)
    clear g0 g1 g2 g3 g4 g5 g6 g7 g8 g9 g10 g11 g12 hS k1 k2 k3 k4 hgl hq1 hq2 hq3 hq4
    go_wp2_with fail
    go_fit (HCO.out _ HBK.out HEK.out)
    rintro e w3 ⟨rfl, hb3⟩
    have HB3 := Lib.hid (beln HBK.out hb3)
    clear hb3 z4
    go_wp2
    go_ret
    exact ⟨rfl, HB3.out⟩
  · obtain ⟨bk, of1, rfl, hbk, ⟨x0, x1, x2, x3, x4, x5, x6, x7, x8, x9, x10, x11, x12⟩⟩ := h1.gev hn
    have HPM := Lib.hid fun W => HPQ.out xs[n] W
    rw [hb] at HPM
    clear hb HPQ
    generalize xs[n] = y at *
    obtain ⟨⟨yc, ys', ⟨⟨j0, j1, j2⟩, yp, ⟨b0, b1, b2, b3, b4, b5, b6⟩⟩⟩, yA, ycp⟩ := y
    simp only [GV.val] at x0 x1 x2 x3 x4 x5 x6 x7 x8 x9 x10 x11 x12 HPM
    have hk0 : 0 ≤ (n : Int) := by omega
    have hk1 : (n : Int) < (xs.length : Int) := by omega
    have hk2 : (n : Int).toNat = n := by omega
    clear h1
    cases b
    · obtain rfl : R = q := by rw [← hR.out]; simp
      clear hR
      refine wp_region_growS (S := fun W => Below w1.heap.size w1 W) [(0, true), (1, true), (2, true), (3, true), (4, true), (5, true), (6, true), (7, false), (8, true)] (by kernel_rfl) (by kernel_rfl) (by kernel_rfl) (by kernel_rfl) (by intro c a d v w h; cases d <;> exact h) hS ?_
      iterate 7
        (first
          | (refine wpGrowS_float (v := ?_) (by simp only [List.getElem?_toArray, List.getElem?_cons_succ, List.getElem?_cons_zero]; rfl) (by rfl) ?_ ?_
             rotate_left
             · (intro W hW; have t0 := (hW.cell (p := ⟨w.heap.size, 0, none⟩) hgl).trans g0; have t1 := (hW.cell (p := ⟨w.heap.size, 1, none⟩) hgl).trans g1; have t2 := (hW.cell (p := ⟨w.heap.size, 2, none⟩) hgl).trans g2; have t3 := (hW.cell (p := ⟨w.heap.size, 3, none⟩) hgl).trans g3; have t4 := (hW.cell (p := ⟨w.heap.size, 4, none⟩) hgl).trans g4; have t5 := (hW.cell (p := ⟨w.heap.size, 5, none⟩) hgl).trans g5; have t6 := (hW.cell (p := ⟨w.heap.size, 6, none⟩) hgl).trans g6; have t7 := (hW.cell (p := ⟨w.heap.size, 7, none⟩) hgl).trans g7; have t8 := (hW.cell (p := ⟨w.heap.size, 8, none⟩) hgl).trans g8; have t9 := (hW.cell (p := ⟨w.heap.size, 9, none⟩) hgl).trans g9; have t10 := (hW.cell (p := ⟨w.heap.size, 10, none⟩) hgl).trans g10; have t11 := (hW.cell (p := ⟨w.heap.size, 11, none⟩) hgl).trans g11; have t12 := (hW.cell (p := ⟨w.heap.size, 12, none⟩) hgl).trans g12; have u1 := (hW.cell (p := ⟨q1, 0, none⟩) hq1).trans k1; have u2 := (hW.cell (p := ⟨q2, 0, none⟩) hq2).trans k2; have u3 := (hW.cell (p := ⟨q3, 0, none⟩) hq3).trans k3; have v0 := (hW.cell (p := ⟨bk, of1 + n * 13, none⟩) hbk).trans x0; have v1 := (hW.cell (p := ⟨bk, of1 + n * 13 + 1, none⟩) hbk).trans x1; have v2 := (hW.cell (p := ⟨bk, of1 + n * 13 + 2, none⟩) hbk).trans x2; have v3 := (hW.cell (p := ⟨bk, of1 + n * 13 + 3, none⟩) hbk).trans x3; have v4 := (hW.cell (p := ⟨bk, of1 + n * 13 + 4, none⟩) hbk).trans x4; have v5 := (hW.cell (p := ⟨bk, of1 + n * 13 + 5, none⟩) hbk).trans x5; have v6 := (hW.cell (p := ⟨bk, of1 + n * 13 + 6, none⟩) hbk).trans x6; have v7 := (hW.cell (p := ⟨bk, of1 + n * 13 + 7, none⟩) hbk).trans x7; have v8 := (hW.cell (p := ⟨bk, of1 + n * 13 + 8, none⟩) hbk).trans x8; have v9 := (hW.cell (p := ⟨bk, of1 + n * 13 + 9, none⟩) hbk).trans x9; have v10 := (hW.cell (p := ⟨bk, of1 + n * 13 + 10, none⟩) hbk).trans x10; have v11 := (hW.cell (p := ⟨bk, of1 + n * 13 + 11, none⟩) hbk).trans x11; have v12 := (hW.cell (p := ⟨bk, of1 + n * 13 + 12, none⟩) hbk).trans x12; (try simp only at *); go_simp; try with_reducible rfl)
             simp only [Act.put, List.setIfInBounds_toArray, List.set_cons_zero, List.set_cons_succ])
          | (refine wpGrowS_skip (by simp only [List.getElem?_toArray, List.getElem?_cons_succ, List.getElem?_cons_zero]; rfl) (by rfl) ?_
             simp only [Act.put, List.setIfInBounds_toArray, List.set_cons_zero, List.set_cons_succ]))
      refine wpGrowS_call (by simp only [List.getElem?_toArray, List.getElem?_cons_succ, List.getElem?_cons_zero]; rfl) (by rfl) fun K hK => ?_
      go_simp
      go_fit (HPM.out _)
      rintro e wn ⟨rfl, hbn⟩
      have hSa := beln hS hbn
      clear hbn
      go_simp
      refine hK _ _ hSa ?_
      clear hK K
      try simp only [Act.put, List.setIfInBounds_toArray, List.set_cons_zero, List.set_cons_succ]
      iterate 1
        (first
          | (refine wpGrowS_float (v := ?_) (by simp only [List.getElem?_toArray, List.getElem?_cons_succ, List.getElem?_cons_zero]; rfl) (by rfl) ?_ ?_
             rotate_left
             · (intro W hW; have t0 := (hW.cell (p := ⟨w.heap.size, 0, none⟩) hgl).trans g0; have t1 := (hW.cell (p := ⟨w.heap.size, 1, none⟩) hgl).trans g1; have t2 := (hW.cell (p := ⟨w.heap.size, 2, none⟩) hgl).trans g2; have t3 := (hW.cell (p := ⟨w.heap.size, 3, none⟩) hgl).trans g3; have t4 := (hW.cell (p := ⟨w.heap.size, 4, none⟩) hgl).trans g4; have t5 := (hW.cell (p := ⟨w.heap.size, 5, none⟩) hgl).trans g5; have t6 := (hW.cell (p := ⟨w.heap.size, 6, none⟩) hgl).trans g6; have t7 := (hW.cell (p := ⟨w.heap.size, 7, none⟩) hgl).trans g7; have t8 := (hW.cell (p := ⟨w.heap.size, 8, none⟩) hgl).trans g8; have t9 := (hW.cell (p := ⟨w.heap.size, 9, none⟩) hgl).trans g9; have t10 := (hW.cell (p := ⟨w.heap.size, 10, none⟩) hgl).trans g10; have t11 := (hW.cell (p := ⟨w.heap.size, 11, none⟩) hgl).trans g11; have t12 := (hW.cell (p := ⟨w.heap.size, 12, none⟩) hgl).trans g12; have u1 := (hW.cell (p := ⟨q1, 0, none⟩) hq1).trans k1; have u2 := (hW.cell (p := ⟨q2, 0, none⟩) hq2).trans k2; have u3 := (hW.cell (p := ⟨q3, 0, none⟩) hq3).trans k3; have v0 := (hW.cell (p := ⟨bk, of1 + n * 13, none⟩) hbk).trans x0; have v1 := (hW.cell (p := ⟨bk, of1 + n * 13 + 1, none⟩) hbk).trans x1; have v2 := (hW.cell (p := ⟨bk, of1 + n * 13 + 2, none⟩) hbk).trans x2; have v3 := (hW.cell (p := ⟨bk, of1 + n * 13 + 3, none⟩) hbk).trans x3; have v4 := (hW.cell (p := ⟨bk, of1 + n * 13 + 4, none⟩) hbk).trans x4; have v5 := (hW.cell (p := ⟨bk, of1 + n * 13 + 5, none⟩) hbk).trans x5; have v6 := (hW.cell (p := ⟨bk, of1 + n * 13 + 6, none⟩) hbk).trans x6; have v7 := (hW.cell (p := ⟨bk, of1 + n * 13 + 7, none⟩) hbk).trans x7; have v8 := (hW.cell (p := ⟨bk, of1 + n * 13 + 8, none⟩) hbk).trans x8; have v9 := (hW.cell (p := ⟨bk, of1 + n * 13 + 9, none⟩) hbk).trans x9; have v10 := (hW.cell (p := ⟨bk, of1 + n * 13 + 10, none⟩) hbk).trans x10; have v11 := (hW.cell (p := ⟨bk, of1 + n * 13 + 11, none⟩) hbk).trans x11; have v12 := (hW.cell (p := ⟨bk, of1 + n * 13 + 12, none⟩) hbk).trans x12; (try simp only at *); go_simp; try with_reducible rfl)
             simp only [Act.put, List.setIfInBounds_toArray, List.set_cons_zero, List.set_cons_succ])
          | (refine wpGrowS_skip (by simp only [List.getElem?_toArray, List.getElem?_cons_succ, List.getElem?_cons_zero]; rfl) (by rfl) ?_
             simp only [Act.put, List.setIfInBounds_toArray, List.set_cons_zero, List.set_cons_succ]))
      refine wpGrowS_nil ?_
      clear x0 x1 x2 x3 x4 x5 x6 x7 x8 x9 x10 x11 x12 hk0 hk1 hk2 hbk
      have z4 := (hSa.cell (p := ⟨q4, 0, none⟩) hq4).trans k4
      have HBK := Lib.hid (beln HB0.out hSa)
      have HEK := Lib.hid (HE1.out.next hSa)
      clear g0 g1 g2 g3 g4 g5 g6 g7 g8 g9 g10 g11 g12 hS hSa k1 k2 k3 k4 hgl hq1 hq2 hq3 hq4
      go_wp2_with fail
      go_fit (HCO.out _ HBK.out HEK.out)
      rintro e w3 ⟨rfl, hb3⟩
      have HB3 := Lib.hid (beln HBK.out hb3)
      clear hb3 z4
      go_wp2
      go_ret
      exact ⟨rfl, HB3.out⟩
    · obtain rfl : R = false := by rw [← hR.out]; simp
      clear hR
      refine wp_region_growS (S := fun W => Below w1.heap.size w1 W) [(0, true), (1, true), (2, true), (3, true), (4, true), (5, true), (6, true), (7, false), (8, true)] (by kernel_rfl) (by kernel_rfl) (by kernel_rfl) (by kernel_rfl) (by intro c a d v w h; cases d <;> exact h) hS ?_
      iterate 7
        (first
          | (refine wpGrowS_float (v := ?_) (by simp only [List.getElem?_toArray, List.getElem?_cons_succ, List.getElem?_cons_zero]; rfl) (by rfl) ?_ ?_
             rotate_left
             · (intro W hW; have t0 := (hW.cell (p := ⟨w.heap.size, 0, none⟩) hgl).trans g0; have t1 := (hW.cell (p := ⟨w.heap.size, 1, none⟩) hgl).trans g1; have t2 := (hW.cell (p := ⟨w.heap.size, 2, none⟩) hgl).trans g2; have t3 := (hW.cell (p := ⟨w.heap.size, 3, none⟩) hgl).trans g3; have t4 := (hW.cell (p := ⟨w.heap.size, 4, none⟩) hgl).trans g4; have t5 := (hW.cell (p := ⟨w.heap.size, 5, none⟩) hgl).trans g5; have t6 := (hW.cell (p := ⟨w.heap.size, 6, none⟩) hgl).trans g6; have t7 := (hW.cell (p := ⟨w.heap.size, 7, none⟩) hgl).trans g7; have t8 := (hW.cell (p := ⟨w.heap.size, 8, none⟩) hgl).trans g8; have t9 := (hW.cell (p := ⟨w.heap.size, 9, none⟩) hgl).trans g9; have t10 := (hW.cell (p := ⟨w.heap.size, 10, none⟩) hgl).trans g10; have t11 := (hW.cell (p := ⟨w.heap.size, 11, none⟩) hgl).trans g11; have t12 := (hW.cell (p := ⟨w.heap.size, 12, none⟩) hgl).trans g12; have u1 := (hW.cell (p := ⟨q1, 0, none⟩) hq1).trans k1; have u2 := (hW.cell (p := ⟨q2, 0, none⟩) hq2).trans k2; have u3 := (hW.cell (p := ⟨q3, 0, none⟩) hq3).trans k3; have v0 := (hW.cell (p := ⟨bk, of1 + n * 13, none⟩) hbk).trans x0; have v1 := (hW.cell (p := ⟨bk, of1 + n * 13 + 1, none⟩) hbk).trans x1; have v2 := (hW.cell (p := ⟨bk, of1 + n * 13 + 2, none⟩) hbk).trans x2; have v3 := (hW.cell (p := ⟨bk, of1 + n * 13 + 3, none⟩) hbk).trans x3; have v4 := (hW.cell (p := ⟨bk, of1 + n * 13 + 4, none⟩) hbk).trans x4; have v5 := (hW.cell (p := ⟨bk, of1 + n * 13 + 5, none⟩) hbk).trans x5; have v6 := (hW.cell (p := ⟨bk, of1 + n * 13 + 6, none⟩) hbk).trans x6; have v7 := (hW.cell (p := ⟨bk, of1 + n * 13 + 7, none⟩) hbk).trans x7; have v8 := (hW.cell (p := ⟨bk, of1 + n * 13 + 8, none⟩) hbk).trans x8; have v9 := (hW.cell (p := ⟨bk, of1 + n * 13 + 9, none⟩) hbk).trans x9; have v10 := (hW.cell (p := ⟨bk, of1 + n * 13 + 10, none⟩) hbk).trans x10; have v11 := (hW.cell (p := ⟨bk, of1 + n * 13 + 11, none⟩) hbk).trans x11; have v12 := (hW.cell (p := ⟨bk, of1 + n * 13 + 12, none⟩) hbk).trans x12; (try simp only at *); go_simp; try with_reducible rfl)
             simp only [Act.put, List.setIfInBounds_toArray, List.set_cons_zero, List.set_cons_succ])
          | (refine wpGrowS_skip (by simp only [List.getElem?_toArray, List.getElem?_cons_succ, List.getElem?_cons_zero]; rfl) (by rfl) ?_
             simp only [Act.put, List.setIfInBounds_toArray, List.set_cons_zero, List.set_cons_succ]))
      refine wpGrowS_call (by simp only [List.getElem?_toArray, List.getElem?_cons_succ, List.getElem?_cons_zero]; rfl) (by rfl) fun K hK => ?_
      go_simp
      go_fit (HPM.out _)
      rintro e wn ⟨rfl, hbn⟩
      have hSa := beln hS hbn
      clear hbn
      go_simp
      refine hK _ _ hSa ?_
      clear hK K
      try simp only [Act.put, List.setIfInBounds_toArray, List.set_cons_zero, List.set_cons_succ]
      iterate 1
        (first
          | (refine wpGrowS_float (v := ?_) (by simp only [List.getElem?_toArray, List.getElem?_cons_succ, List.getElem?_cons_zero]; rfl) (by rfl) ?_ ?_
             rotate_left
             · (intro W hW; have t0 := (hW.cell (p := ⟨w.heap.size, 0, none⟩) hgl).trans g0; have t1 := (hW.cell (p := ⟨w.heap.size, 1, none⟩) hgl).trans g1; have t2 := (hW.cell (p := ⟨w.heap.size, 2, none⟩) hgl).trans g2; have t3 := (hW.cell (p := ⟨w.heap.size, 3, none⟩) hgl).trans g3; have t4 := (hW.cell (p := ⟨w.heap.size, 4, none⟩) hgl).trans g4; have t5 := (hW.cell (p := ⟨w.heap.size, 5, none⟩) hgl).trans g5; have t6 := (hW.cell (p := ⟨w.heap.size, 6, none⟩) hgl).trans g6; have t7 := (hW.cell (p := ⟨w.heap.size, 7, none⟩) hgl).trans g7; have t8 := (hW.cell (p := ⟨w.heap.size, 8, none⟩) hgl).trans g8; have t9 := (hW.cell (p := ⟨w.heap.size, 9, none⟩) hgl).trans g9; have t10 := (hW.cell (p := ⟨w.heap.size, 10, none⟩) hgl).trans g10; have t11 := (hW.cell (p := ⟨w.heap.size, 11, none⟩) hgl).trans g11; have t12 := (hW.cell (p := ⟨w.heap.size, 12, none⟩) hgl).trans g12; have u1 := (hW.cell (p := ⟨q1, 0, none⟩) hq1).trans k1; have u2 := (hW.cell (p := ⟨q2, 0, none⟩) hq2).trans k2; have u3 := (hW.cell (p := ⟨q3, 0, none⟩) hq3).trans k3; have v0 := (hW.cell (p := ⟨bk, of1 + n * 13, none⟩) hbk).trans x0; have v1 := (hW.cell (p := ⟨bk, of1 + n * 13 + 1, none⟩) hbk).trans x1; have v2 := (hW.cell (p := ⟨bk, of1 + n * 13 + 2, none⟩) hbk).trans x2; have v3 := (hW.cell (p := ⟨bk, of1 + n * 13 + 3, none⟩) hbk).trans x3; have v4 := (hW.cell (p := ⟨bk, of1 + n * 13 + 4, none⟩) hbk).trans x4; have v5 := (hW.cell (p := ⟨bk, of1 + n * 13 + 5, none⟩) hbk).trans x5; have v6 := (hW.cell (p := ⟨bk, of1 + n * 13 + 6, none⟩) hbk).trans x6; have v7 := (hW.cell (p := ⟨bk, of1 + n * 13 + 7, none⟩) hbk).trans x7; have v8 := (hW.cell (p := ⟨bk, of1 + n * 13 + 8, none⟩) hbk).trans x8; have v9 := (hW.cell (p := ⟨bk, of1 + n * 13 + 9, none⟩) hbk).trans x9; have v10 := (hW.cell (p := ⟨bk, of1 + n * 13 + 10, none⟩) hbk).trans x10; have v11 := (hW.cell (p := ⟨bk, of1 + n * 13 + 11, none⟩) hbk).trans x11; have v12 := (hW.cell (p := ⟨bk, of1 + n * 13 + 12, none⟩) hbk).trans x12; (try simp only at *); go_simp; try with_reducible rfl)
             simp only [Act.put, List.setIfInBounds_toArray, List.set_cons_zero, List.set_cons_succ])
          | (refine wpGrowS_skip (by simp only [List.getElem?_toArray, List.getElem?_cons_succ, List.getElem?_cons_zero]; rfl) (by rfl) ?_
             simp only [Act.put, List.setIfInBounds_toArray, List.set_cons_zero, List.set_cons_succ]))
      refine wpGrowS_nil ?_
      have HBK := Lib.hid (beln HB0.out hSa)
      clear g0 g1 g2 g3 g4 g5 g6 g7 g8 g9 g10 g11 g12 hS hSa k1 k2 k3 k4 hgl hq1 hq2 hq3 hq4
      go_wp2
      go_ret
      exact ⟨rfl, HBK.out⟩
set_option maxRecDepth 20000 in
set_option maxHeartbeats 1000000 in
theorem idxCon_any (p : GE → Bool) (c1 c2 c3 c4 : Value) (xs : List GV) (A : Option Addr) (c : Nat) (w : World) (h1 : GRow GV.cells 13 w w.heap.size A xs) (hl : xs.length ≤ 17179869184)
    (hF : ∀ W, Below w.heap.size w W → ∀ k (hk : k < xs.length), Calls Tryz.prog 75 #[xs[k].val, c1, c2, c3, c4] W fun e W' => e = .returned (.bool (p xs[k].e)) ∧ Below W.heap.size W W') :
    Calls Tryz.prog 58 #[.slice A xs.length c, .func (.func 75) #[] #[c1, c2, c3, c4]] w fun e w' => e = .returned (.int .i64 (fidx p (xs.map GV.e))) ∧ Below w.heap.size w w' := by
  have H1 := Lib.hid h1
  rw [fidx_map]
  have HQ1 : Hid (∀ k (hk : k < xs.length), (∀ j (hj : j < xs.length), j < k → p xs[j].e = false) → p xs[k].e = true → fidx (fun y => p y.e) xs = k) := Lib.hid fun k hk h0 h1 => fidx_found hk h0 h1
  have HQ2 : Hid ((∀ j (hj : j < xs.length), p xs[j].e = false) → fidx (fun y => p y.e) xs = -1) := Lib.hid fun h => fidx_none h
  have HF := Lib.hid hF
  generalize fidx (fun y => p y.e) xs = q at *
  clear h1 hF
  go_enter Tryz.func58, Tryz.ntmps58
  go_wp2
  go_loopw [8] (fun vi wr => ∃ k : Nat, vi = .int .i64 k ∧ k ≤ xs.length ∧ Hid (∀ j (hj : j < xs.length), j < k → p xs[j].e = false) ∧ Hid (Below w.heap.size w wr)) (fun vi _ => xs.length - (intOf vi).toNat)
  case atStart => exact ⟨0, rfl, Nat.zero_le _, Lib.hid fun j _ hj => absurd hj (by omega), Lib.hid (Below.refl _ _)⟩
  case round =>
    obtain ⟨k, rfl, hk, HT, HB⟩ := hrel
    rcases Nat.lt_or_ge k xs.length with hlt | hge
    · obtain ⟨b1, o1, rfl, hb1, ⟨x0, x1, x2, x3, x4, x5, x6, x7, x8, x9, x10, x11, x12⟩⟩ := (H1.out.next HB.out).gev hlt
      have HFK := Lib.hid (HF.out wr HB.out k hlt)
      have HPK : Hid (∀ b, p xs[k].e = b → (b = true → q = k) ∧ (b = false → ∀ j (hj : j < xs.length), j < k + 1 → p xs[j].e = false)) := Lib.hid fun b hb => ⟨fun e => HQ1.out k hlt (fun j hj hjk => HT.out j hj hjk) (by rw [hb, e]), fun e j hj hjk => by
        rcases Nat.lt_or_ge j k with h | h
        · exact HT.out j hj h
        · obtain rfl : j = k := by omega
          rw [hb, e]⟩
      unfold GV.val at HFK
      generalize p xs[k].e = b at *
      generalize xs[k] = x at *
      obtain ⟨⟨xc, xs', ⟨⟨i0, i1, i2⟩, xp, ⟨a0, a1, a2, a3, a4, a5, a6⟩⟩⟩, xA, xcp⟩ := x
      simp only at x0 x1 x2 x3 x4 x5 x6 x7 x8 x9 x10 x11 x12 HFK
      clear HT
      go_wp2_with fail
      go_fit HFK.out
      rintro e w2 ⟨rfl, hb2⟩
      have HB2 := Lib.hid (beln HB.out hb2)
      clear hb2 x0 x1 x2 x3 x4 x5 x6 x7 x8 x9 x10 x11 x12 HFK
      obtain ⟨h1, h2⟩ := HPK.out b rfl
      rcases b with _ | _
      · have HT2 := Lib.hid (h2 rfl)
        clear h1 h2 HPK
        go_wp2
        go_roundw
        case rel => exact ⟨k + 1, by go_num, by omega, HT2, HB2⟩
        case measure => simp [intOf]; omega
      · have HF2 := Lib.hid (h1 rfl)
        clear h1 h2 HPK
        go_wp2
        go_ret
        exact ⟨congrArg (fun b => Ending.returned (Value.int .i64 b)) HF2.out.symm, HB2.out⟩
    · have HF2 : Hid (q = -1) := Lib.hid (HQ2.out fun j hj => HT.out j hj (by omega))
      go_wp2
      go_ret
      exact ⟨congrArg (fun b => Ending.returned (Value.int .i64 b)) HF2.out.symm, HB.out⟩
set_option maxRecDepth 20000 in
theorem conCon_any (p : GE → Bool) (c1 c2 c3 c4 : Value) (xs : List GV) (A : Option Addr) (c : Nat) (w : World) (h1 : GRow GV.cells 13 w w.heap.size A xs) (hl : xs.length ≤ 17179869184)
    (hF : ∀ W, Below w.heap.size w W → ∀ k (hk : k < xs.length), Calls Tryz.prog 75 #[xs[k].val, c1, c2, c3, c4] W fun e W' => e = .returned (.bool (p xs[k].e)) ∧ Below W.heap.size W W') :
    Calls Tryz.prog 74 #[.slice A xs.length c, .func (.func 75) #[] #[c1, c2, c3, c4]] w fun e w' => e = .returned (.bool ((xs.map GV.e).any p)) ∧ Below w.heap.size w w' := by
  have HI := Lib.hid (idxCon_any p c1 c2 c3 c4 xs A c w h1 hl hF)
  have HQ := Lib.hid (fidx_any p (xs.map GV.e))
  generalize fidx p (xs.map GV.e) = r at *
  generalize (xs.map GV.e).any p = q at *
  clear h1 hF
  go_enter Tryz.func74, Tryz.ntmps74
  go_wp2_with fail
  go_fit HI.out
  rintro e w2 ⟨rfl, hb2⟩
  have HB2 := Lib.hid hb2
  have hq := HQ.out
  clear hb2 HI
  go_wp2
  go_ret
  exact ⟨rfl, HB2.out⟩
theorem ovR_comm (a b : GR) : ovR a b = ovR b a := by
  rw [ov_con, ov_con, Bool.or_comm]
theorem con_swap (es : List GE) (i : GId) (cs : List GC) : (es.any fun o => !prmB es i o && cs.any fun y => ovR y.rng o.node.cap.rng) = conE es i cs := by
  unfold conE
  rw [Bool.eq_iff_iff]
  simp only [List.any_eq_true, Bool.and_eq_true]
  constructor
  · rintro ⟨o, ho, h1, y, hy, h2⟩
    exact ⟨y, hy, o, ho, by rw [ovR_comm]; exact h2, h1⟩
  · rintro ⟨y, hy, o, ho, h2, h1⟩
    exact ⟨o, ho, h1, y, hy, by rw [ovR_comm]; exact h2⟩
theorem prm_case (xs : List GV) (i : GId) (x : GE) : (decide (0 ≤ fidx (pid i) (xs.map GV.e)) = false ∧ prmB (xs.map GV.e) i x = false) ∨ (decide (0 ≤ fidx (pid i) (xs.map GV.e)) = true ∧ ∃ n : Nat, max (fidx (pid i) (xs.map GV.e)) 0 = n ∧ ∃ hn : n < xs.length, prm2 x xs[n].e = prmB (xs.map GV.e) i x) := by
  rcases Int.lt_or_le (fidx (pid i) (xs.map GV.e)) 0 with h | h
  · refine .inl ⟨by simp; omega, ?_⟩
    unfold prmB
    rw [find_no h]
  · obtain ⟨n, hn⟩ : ∃ n : Nat, fidx (pid i) (xs.map GV.e) = n := ⟨(fidx (pid i) (xs.map GV.e)).toNat, by omega⟩
    obtain ⟨hk, hf, _⟩ := find_at hn
    refine .inr ⟨by simpa using h, n, by omega, by simpa using hk, ?_⟩
    unfold prmB prm2
    rw [hf]
    simp
    rfl
end Go.Proofs.YtndppbfdcceflaaGreatDoor


namespace Go.Proofs.YtndppbfdcceflaaGreatDoor
open Go.RowKit

set_option maxRecDepth 20000 in
set_option maxHeartbeats 1000000 in
theorem pConE_any (xs : List GV) (A : Option Addr) (c : Nat) (i : GId) (cs : List GC) (B : Option Addr) (d : Nat) (w : World)
    (h1 : GRow GV.cells 13 w w.heap.size A xs) (hc : GRow GC.cells 7 w w.heap.size B cs) (hl : xs.length ≤ 100000) (hl2 : cs.length ≤ 100000) :
    Calls Tryz.prog 38 #[.slice A xs.length c, i.val, .slice B cs.length d] w fun e w' => e = .returned (.bool (conE (xs.map GV.e) i cs)) ∧ Below w.heap.size w w' := by
  have HFI := Lib.hid fun W (hW : Below w.heap.size w W) => pFindE_any xs A c i W (h1.next hW) (by omega)
  have HPC := Lib.hid fun x => prm_case xs i x
  have hsw := con_swap (xs.map GV.e) i cs
  unfold findV at HFI
  generalize fidx (pid i) (xs.map GV.e) = r at *
  have HCT := Lib.hid fun W q1 q3 (hW : Below w.heap.size w W) (hx1 : BBx W q1 (decide (0 ≤ r))) (hx2 : SBx W w.heap.size A xs.length c) (hx3 : IBx W q3 (max r 0)) (hx4 : CSx W (w.heap.size + 1 + 1) B cs.length d) =>
    conCon_any (fun o => !prmB (xs.map GV.e) i o && cs.any fun y => ovR y.rng o.node.cap.rng) (.pointer (some ⟨q1, 0, none⟩)) (.pointer (some ⟨w.heap.size, 0, none⟩)) (.pointer (some ⟨q3, 0, none⟩)) (.pointer (some ⟨w.heap.size + 1 + 1, 0, none⟩)) xs A c W (h1.next hW) (by omega)
      fun W' hW' k hk => cCon_any xs A c cs B d (decide (0 ≤ r)) (max r 0) (prmB (xs.map GV.e) i xs[k].e) q1 w.heap.size q3 (w.heap.size + 1 + 1) xs[k] W' ((h1.next hW).next hW') ((hc.next hW).next hW') hl2 (HPC.out xs[k].e) (hx1.next hW') (hx2.next hW') (hx3.next hW') (hx4.next hW')
  rw [hsw] at HCT
  generalize conE (xs.map GV.e) i cs = q at *
  have HL0 : Hid (SBx (((w.alloc (.cells #[.slice A xs.length c] 22)).alloc (.cells #[.int .i64 i.core, .int .i64 i.op, .int .i64 i.part] 25)).alloc (.cells #[.slice B cs.length d] 56)) w.heap.size A xs.length c) := Lib.hid (((SBx.new w A xs.length c).next (belt (Below.refl _ _) _)).next (belt (Below.refl _ _) _))
  have HI0 : Hid (IB (((w.alloc (.cells #[.slice A xs.length c] 22)).alloc (.cells #[.int .i64 i.core, .int .i64 i.op, .int .i64 i.part] 25)).alloc (.cells #[.slice B cs.length d] 56)) (w.heap.size + 1) i) := Lib.hid (by
    have h := (IB.new (w.alloc (.cells #[.slice A xs.length c] 22)) i).next (belt (Below.refl _ _) (.cells #[.slice B cs.length d] 56))
    rw [World.size_alloc] at h
    exact h)
  have HC0 : Hid (CSx (((w.alloc (.cells #[.slice A xs.length c] 22)).alloc (.cells #[.int .i64 i.core, .int .i64 i.op, .int .i64 i.part] 25)).alloc (.cells #[.slice B cs.length d] 56)) (w.heap.size + 1 + 1) B cs.length d) := Lib.hid (by
    have h := CSx.new ((w.alloc (.cells #[.slice A xs.length c] 22)).alloc (.cells #[.int .i64 i.core, .int .i64 i.op, .int .i64 i.part] 25)) B cs.length d
    rw [World.size_alloc, World.size_alloc] at h
    exact h)
  have HB0 := Lib.hid (belt (belt (belt (Below.refl _ w) (.cells #[.slice A xs.length c] 22)) (.cells #[.int .i64 i.core, .int .i64 i.op, .int .i64 i.part] 25)) (.cells #[.slice B cs.length d] 56))
  have y0 := HL0.out.cell
  obtain ⟨z0, z1, z2⟩ := HI0.out.cells
  clear h1 hc hsw HPC
  obtain ⟨j0, j1, j2⟩ := i
  simp only [GId.val] at *
  go_enter Tryz.func38, Tryz.ntmps38
  go_wp2_with fail
  go_fit (HFI.out _ HB0.out)
  rintro e w1 ⟨rfl, hb1⟩
  have HB1 := Lib.hid (beln HB0.out hb1)
  have HL1 := Lib.hid (HL0.out.next hb1)
  have HC1 := Lib.hid (HC0.out.next hb1)
  clear hb1 HFI HI0 HL0 HC0 HB0 y0 z0 z1 z2
  have hok : ∃ ok, decide (0 ≤ r) = ok := ⟨_, rfl⟩
  obtain ⟨ok, hok⟩ := hok
  have hni : ∃ ni, max r 0 = ni := ⟨_, rfl⟩
  obtain ⟨ni, hni⟩ := hni
  simp only [hok, hni] at HCT ⊢
  clear hok hni
  have HB2 := Lib.hid (belt (belt HB1.out (.cells #[.int .i64 ni] 3)) (.cells #[.bool ok] 4))
  have HL2 : Hid (SBx ((w1.alloc (.cells #[.int .i64 ni] 3)).alloc (.cells #[.bool ok] 4)) w.heap.size A xs.length c) := Lib.hid ((HL1.out.next (belt (Below.refl _ _) _)).next (belt (Below.refl _ _) _))
  have HC2 : Hid (CSx ((w1.alloc (.cells #[.int .i64 ni] 3)).alloc (.cells #[.bool ok] 4)) (w.heap.size + 1 + 1) B cs.length d) := Lib.hid ((HC1.out.next (belt (Below.refl _ _) _)).next (belt (Below.refl _ _) _))
  have HS2 : Hid (IBx ((w1.alloc (.cells #[.int .i64 ni] 3)).alloc (.cells #[.bool ok] 4)) w1.heap.size ni) := Lib.hid ((IBx.new w1 ni).next (belt (Below.refl _ _) _))
  have HO2 : Hid (BBx ((w1.alloc (.cells #[.int .i64 ni] 3)).alloc (.cells #[.bool ok] 4)) (w1.heap.size + 1) ok) := Lib.hid (by
    have h := BBx.new (w1.alloc (.cells #[.int .i64 ni] 3)) ok
    rw [World.size_alloc] at h
    exact h)
  have y0 := HL2.out.cell
  go_wp2_with fail
  go_fit (HCT.out _ _ _ HB2.out HO2.out HL2.out HS2.out HC2.out)
  rintro e w3 ⟨rfl, hb3⟩
  have HB3 := Lib.hid (beln HB2.out hb3)
  clear hb3 y0 HB2 HL2 HC2 HS2 HO2 HCT
  go_wp2
  go_ret
  exact ⟨rfl, HB3.out⟩
end Go.Proofs.YtndppbfdcceflaaGreatDoor


namespace Go.Proofs.YtndppbfdcceflaaGreatDoor
open Go.RowKit

set_option maxRecDepth 20000 in
set_option maxHeartbeats 1000000 in
theorem rDesE_any (xs : List GV) (A : Option Addr) (c : Nat) (i : GId) (w : World) (h1 : ERow w w.heap.size A xs) (hl : xs.length ≤ 100000) (hp : ∀ x ∈ xs, x.e.node.path.length ≤ 17179869184) :
    Calls Tryz.prog 28 #[.slice A xs.length c, i.val] w (IdsEnd (desL (xs.map GV.e) i) w) := by
  have H1 := Lib.hid h1
  have HHL := Lib.hid fun k (hk : k < xs.length) W (hW : Below w.heap.size w W) => rHas_any xs[k].e.node.path xs[k].A xs[k].c i W ((h1.pth _ (List.getElem_mem hk)).1.next hW) (hp _ (List.getElem_mem hk))
  have HST := Lib.hid fun k (hk : k < xs.length) => desL_succ xs i hk
  have HLN : Hid (∀ k, (desL ((xs.map GV.e).take k) i).length ≤ k) := Lib.hid fun k => Nat.le_trans (desL_len _ _) (by simp; omega)
  have HALL : Hid (desL ((xs.map GV.e).take xs.length) i = desL (xs.map GV.e) i) := Lib.hid (by rw [List.take_of_length_le (by simp)])
  have HD0 : Hid (desL ((xs.map GV.e).take 0) i = []) := Lib.hid (by simp [desL])
  have HEND : Hid (∀ v W, OwnG GId.cells 25 3 W w.heap.size v (desL (xs.map GV.e) i) → Below w.heap.size w W → IdsEnd (desL (xs.map GV.e) i) w (.returned v) W) := Lib.hid fun v W h1 h2 => ⟨v, rfl, h1, h2⟩
  have HX := Lib.hid (IB.new w i)
  have HB0 := Lib.hid (belt (Below.refl _ w) (.cells #[.int .i64 i.core, .int .i64 i.op, .int .i64 i.part] 25))
  have HM0 : Hid (w.heap.size ≤ (w.alloc (.cells #[.int .i64 i.core, .int .i64 i.op, .int .i64 i.part] 25)).heap.size) := Lib.hid HB0.out.size
  generalize IdsEnd (desL (xs.map GV.e) i) w = EE at *
  generalize desL (xs.map GV.e) i = RL at *
  obtain ⟨D, hD⟩ : ∃ D : Nat → List GId, ∀ k, desL ((xs.map GV.e).take k) i = D k := ⟨_, fun _ => rfl⟩
  simp only [hD] at HST HLN HALL HD0
  clear h1 hp hD
  obtain ⟨j0, j1, j2⟩ := i
  simp only [GId.val] at *
  go_enter Tryz.func28, Tryz.ntmps28
  go_wp2
  generalize w.alloc (.cells #[.int .i64 j0, .int .i64 j1, .int .i64 j2] 25) = wI at *
  go_loopw [5, 6] (fun v5 vi wr => ∃ k : Nat, vi = .int .i64 k ∧ k ≤ xs.length ∧ Hid (OwnG GId.cells 25 3 wr wI.heap.size v5 (D k)) ∧ Hid (Below wI.heap.size wI wr)) (fun _ vi _ => xs.length - (intOf vi).toNat)
  case atStart => exact ⟨0, rfl, Nat.zero_le _, Lib.hid (by rw [HD0.out]; exact OwnG.nil _ _), Lib.hid (Below.refl _ _)⟩
  case round =>
    obtain ⟨k, rfl, hk, HO, HB⟩ := hrel
    have HBw := Lib.hid (beln HB0.out HB.out)
    rcases Nat.lt_or_ge k xs.length with hlt | hge
    · obtain ⟨An, cn, rfl, hcn, hmn, hrn⟩ := HO.out.row GId.len
      clear hcn hmn hrn
      obtain ⟨b1, o1, rfl, hb1, ⟨x0, x1, x2, x3, x4, x5, x6, x7, x8, x9, x10, x11, x12⟩⟩ := (H1.out.next HBw.out).row.gev hlt
      have HSK := Lib.hid (HST.out k hlt)
      have HLK := Lib.hid (HLN.out k)
      have HHK := Lib.hid fun W (hW : Below wr.heap.size wr W) => HHL.out k hlt W (beln HBw.out hW)
      generalize hasI xs[k].e.node.path ⟨j0, j1, j2⟩ = b at *
      generalize xs[k] = x at *
      obtain ⟨⟨xc, xs', ⟨⟨i0, i1, i2⟩, xp, ⟨a0, a1, a2, a3, a4, a5, a6⟩⟩⟩, xA, xcp⟩ := x
      simp only at x0 x1 x2 x3 x4 x5 x6 x7 x8 x9 x10 x11 x12 HSK HHK
      obtain ⟨y0, y1, y2⟩ := (HX.out.next HB.out).cells
      have hXl := (HX.out.next HB.out).lt
      simp only at y0 y1 y2
      have hk0 : 0 ≤ (k : Int) := by omega
      have hk1 : (k : Int) < (xs.length : Int) := by omega
      have hk2 : (k : Int).toNat = k := by omega
      go_upto_region 5 with fail
      have hS := (Below.refl wr.heap.size wr).drew
      refine wp_region_growS (S := fun W => Below wr.heap.size wr W) [(0, true), (1, true), (2, true), (3, true), (4, true), (5, true), (6, true), (7, false)] (by kernel_rfl) (by kernel_rfl) (by kernel_rfl) (by kernel_rfl) (by intro c a d v w h; cases d <;> exact h) hS ?_
      iterate 7
        (first
          | (refine wpGrowS_float (v := ?_) (by simp only [List.getElem?_toArray, List.getElem?_cons_succ, List.getElem?_cons_zero]; rfl) (by rfl) ?_ ?_
             rotate_left
             · (intro W hW; have t2 := (hW.cell (p := ⟨b1, o1 + k * 13 + 2, none⟩) hb1).trans x2; have t3 := (hW.cell (p := ⟨b1, o1 + k * 13 + 3, none⟩) hb1).trans x3; have t4 := (hW.cell (p := ⟨b1, o1 + k * 13 + 4, none⟩) hb1).trans x4; have t5 := (hW.cell (p := ⟨b1, o1 + k * 13 + 5, none⟩) hb1).trans x5; have t6 := (hW.cell (p := ⟨b1, o1 + k * 13 + 6, none⟩) hb1).trans x6; have t7 := (hW.cell (p := ⟨b1, o1 + k * 13 + 7, none⟩) hb1).trans x7; have t8 := (hW.cell (p := ⟨b1, o1 + k * 13 + 8, none⟩) hb1).trans x8; have t9 := (hW.cell (p := ⟨b1, o1 + k * 13 + 9, none⟩) hb1).trans x9; have t10 := (hW.cell (p := ⟨b1, o1 + k * 13 + 10, none⟩) hb1).trans x10; have t11 := (hW.cell (p := ⟨b1, o1 + k * 13 + 11, none⟩) hb1).trans x11; have t12 := (hW.cell (p := ⟨b1, o1 + k * 13 + 12, none⟩) hb1).trans x12; have u0 := (hW.cell (p := ⟨w.heap.size, 0, none⟩) hXl).trans y0; have u1 := (hW.cell (p := ⟨w.heap.size, 1, none⟩) hXl).trans y1; have u2 := (hW.cell (p := ⟨w.heap.size, 2, none⟩) hXl).trans y2; (try simp only at *); go_simp; try with_reducible rfl)
             simp only [Act.put, List.setIfInBounds_toArray, List.set_cons_zero, List.set_cons_succ])
          | (refine wpGrowS_skip (by simp only [List.getElem?_toArray, List.getElem?_cons_succ, List.getElem?_cons_zero]; rfl) (by rfl) ?_
             simp only [Act.put, List.setIfInBounds_toArray, List.set_cons_zero, List.set_cons_succ]))
      refine wpGrowS_call (by simp only [List.getElem?_toArray, List.getElem?_cons_succ, List.getElem?_cons_zero]; rfl) (by rfl) fun K hK => ?_
      go_simp
      go_fit (HHK.out _ hS)
      rintro e wn ⟨rfl, hbn⟩
      have hSp := hS
      have hS : Below wr.heap.size wr wn := beln hS hbn
      go_simp
      refine hK _ _ hS ?_
      clear hK K
      try simp only [Act.put, List.setIfInBounds_toArray, List.set_cons_zero, List.set_cons_succ]
      refine wpGrowS_nil ?_
      have HB2 := Lib.hid (beln HB.out hS)
      have HO2 := Lib.hid (HO.out.next hS)
      obtain ⟨_, _, z2, z3, z4, _, _, _, _, _, _, _, _⟩ := (show EVF wr b1 (o1 + k * 13) ⟨⟨xc, xs', ⟨⟨i0, i1, i2⟩, xp, ⟨a0, a1, a2, a3, a4, a5, a6⟩⟩⟩, xA, xcp⟩ from ⟨x0, x1, x2, x3, x4, x5, x6, x7, x8, x9, x10, x11, x12⟩).next hb1 hS
      simp only at z2 z3 z4
      clear hS x0 x1 x2 x3 x4 x5 x6 x7 x8 x9 x10 x11 x12 y0 y1 y2 HHK hk0 hk2 hXl
      rcases b with _ | _
      · have HO9 : Hid (OwnG GId.cells 25 3 wn wI.heap.size (.slice An (D k).length cn) (D (k + 1))) := Lib.hid (by rw [HSK.out, if_neg (by simp), List.append_nil]; exact HO2.out)
        clear z2 z3 z4
        go_wp2
        go_roundw
        case rel => exact ⟨k + 1, by go_num, by omega, HO9, HB2⟩
        case measure => simp [intOf]; omega
      · obtain ⟨v9, w9, hrun9, hown9, hb9⟩ := OwnI.snoc HO2.out HB2.out (Nat.le_refl _) HB2.out.size ⟨i0, i1, i2⟩ (by have := HLK.out; omega)
        simp only at hrun9
        have HRUN := Lib.hid hrun9
        have HB9 := Lib.hid hb9
        have HO9 : Hid (OwnG GId.cells 25 3 w9 wI.heap.size v9 (D (k + 1))) := Lib.hid (by rw [HSK.out, if_pos rfl]; exact hown9)
        clear hrun9 hown9 hb9
        generalize (D k).length = dl at *
        go_wp2_with (at_builtin; refine wpList_gapp HRUN.out rfl rfl rfl rfl rfl ?_)
        go_roundw
        case rel => exact ⟨k + 1, by go_num, by omega, HO9, HB9⟩
        case measure => simp [intOf]; omega
    · obtain rfl : k = xs.length := by omega
      have HO9 := Lib.hid (HO.out.low HM0.out)
      rw [HALL.out] at HO9
      go_wp2
      exact HEND.out _ _ HO9.out HBw.out
set_option maxRecDepth 20000 in
set_option maxHeartbeats 1000000 in
theorem rParE_any (xs : List GV) (A : Option Addr) (c : Nat) (i : GId) (w : World) (h1 : ERow w w.heap.size A xs) (hl : xs.length ≤ 100000) (hp : ∀ x ∈ xs, x.e.node.path.length ≤ 17179869184) :
    Calls Tryz.prog 23 #[.slice A xs.length c, i.val] w fun e w' => e = .returned (.tuple #[(parEI (xs.map GV.e) i).val, .bool (parEB (xs.map GV.e) i)]) ∧ Below w.heap.size w w' := by
  have H1 := Lib.hid h1
  have HFI := Lib.hid fun W (hW : Below w.heap.size w W) => rFindE_any xs A c i W (h1.row.next hW) (by omega)
  have HX := Lib.hid ((IB.new w i).next (belt (Below.refl _ _) (.cells #[.int .i64 0, .int .i64 0, .int .i64 0] 25)))
  have HZ := Lib.hid (IB.new (w.alloc (.cells #[.int .i64 i.core, .int .i64 i.op, .int .i64 i.part] 25)) ⟨0, 0, 0⟩)
  simp only [World.size_alloc] at HZ
  have HB0 := Lib.hid (belt (belt (Below.refl _ w) (.cells #[.int .i64 i.core, .int .i64 i.op, .int .i64 i.part] 25)) (.cells #[.int .i64 0, .int .i64 0, .int .i64 0] 25))
  rcases Int.lt_or_le (fidx (pid i) (xs.map GV.e)) 0 with hr | hr
  · obtain ⟨e1, e2⟩ := par_no hr
    rw [e1, e2]
    have f1 : decide (fidx (pid i) (xs.map GV.e) < 0) = true := by simpa using hr
    generalize fidx (pid i) (xs.map GV.e) = r at *
    clear e1 e2 h1 hp
    obtain ⟨j0, j1, j2⟩ := i
    simp only [GId.val] at *
    obtain ⟨y0, y1, y2⟩ := HX.out.cells
    simp only at y0 y1 y2
    go_enter Tryz.func23, Tryz.ntmps23
    go_wp2_with fail
    go_fit (HFI.out _ HB0.out)
    rintro e w1 ⟨rfl, hb1⟩
    have HB1 := Lib.hid (beln HB0.out hb1)
    obtain ⟨z0, z1, z2⟩ := (HZ.out.next hb1).cells
    have zf := (HZ.out.next hb1).frz
    simp only at z0 z1 z2
    clear hb1 HFI y0 y1 y2
    go_wp2
    refine bodyPost_ret (v := .tuple #[.agg #[.int .i64 0, .int .i64 0, .int .i64 0], .bool false]) (by simp [results, Tryz.results23, go_sem, z0, z1, z2]) rfl ?_
    exact ⟨rfl, ((HB1.out.setCell (p := ⟨w.heap.size + 1, 0, none⟩) (by simp) _).setCell (p := ⟨w.heap.size + 1, 1, none⟩) (by simp) _).setCell (p := ⟨w.heap.size + 1, 2, none⟩) (by simp) _⟩
  · obtain ⟨r, hr2⟩ := Int.eq_ofNat_of_zero_le hr
    obtain ⟨hrl, e1, e2⟩ := par_at hr2
    rw [e1, e2]
    rw [hr2] at HFI
    have HID := Lib.hid fun W (hW : Below w.heap.size w W) => rIdsE_any xs A c W (h1.row.next hW) hl
    have HPR := Lib.hid fun L d W (hW : Below w.heap.size w W) (hL : PRow W W.heap.size L (idsE (xs.map GV.e))) => rPar_any xs[r].e.node xs[r].A xs[r].c (idsE (xs.map GV.e)) L d W ((h1.pth _ (List.getElem_mem hrl)).1.next hW) hL (hp _ (List.getElem_mem hrl)) (by unfold idsE; simp; omega)
    have HLL : Hid ((idsE (xs.map GV.e)).length = xs.length) := Lib.hid (by unfold idsE; simp)
    obtain ⟨b1, o1, rfl, hb1, ⟨x0, x1, x2, x3, x4, x5, x6, x7, x8, x9, x10, x11, x12⟩⟩ := h1.row.gev hrl
    generalize parI xs[r].e.node.path (idsE (xs.map GV.e)) = pi at *
    generalize parB xs[r].e.node.path (idsE (xs.map GV.e)) = pb at *
    unfold IdsEnd at HID
    generalize idsE (xs.map GV.e) = RL at *
    unfold GN.val at HPR
    generalize hx : xs[r] = x at *
    clear hr hr2 e1 e2 h1 hp hx
    obtain ⟨⟨xc, xs', ⟨⟨i0, i1, i2⟩, xp, ⟨a0, a1, a2, a3, a4, a5, a6⟩⟩⟩, xA, xcp⟩ := x
    obtain ⟨j0, j1, j2⟩ := i
    simp only [GId.val] at *
    obtain ⟨y0, y1, y2⟩ := HX.out.cells
    simp only at y0 y1 y2
    go_enter Tryz.func23, Tryz.ntmps23
    go_wp2_with fail
    go_fit (HFI.out _ HB0.out)
    rintro e w1 ⟨rfl, hb1'⟩
    have HB1 := Lib.hid (beln HB0.out hb1')
    have HZ1 := Lib.hid (HZ.out.next hb1')
    clear hb1' HFI y0 y1 y2 HX HZ HB0
    have hk0 : 0 ≤ (r : Int) := by omega
    have hk1 : (r : Int) < (xs.length : Int) := by omega
    have hk2 : (r : Int).toNat = r := by omega
    have hk3 : ¬ ((r : Int) < 0) := by omega
    go_upto_region 4 with fail
    have hS : Below w.heap.size w w1.drew := HB1.out.drew
    refine wp_region_growS (S := fun W => Below w.heap.size w W) [(0, true), (1, true), (2, true), (3, true), (4, true), (5, true), (6, false), (7, false), (8, true), (9, true), (10, false), (11, true)] (by kernel_rfl) (by kernel_rfl) (by kernel_rfl) (by kernel_rfl) (by intro c a d v w h; cases d <;> exact h) hS ?_
    iterate 6
      (first
        | (refine wpGrowS_float (v := ?_) (by simp only [List.getElem?_toArray, List.getElem?_cons_succ, List.getElem?_cons_zero]; rfl) (by rfl) ?_ ?_
           rotate_left
           · (intro W hW; have t2 := (hW.cell (p := ⟨b1, o1 + r * 13 + 2, none⟩) hb1).trans x2; have t3 := (hW.cell (p := ⟨b1, o1 + r * 13 + 3, none⟩) hb1).trans x3; have t4 := (hW.cell (p := ⟨b1, o1 + r * 13 + 4, none⟩) hb1).trans x4; have t5 := (hW.cell (p := ⟨b1, o1 + r * 13 + 5, none⟩) hb1).trans x5; have t6 := (hW.cell (p := ⟨b1, o1 + r * 13 + 6, none⟩) hb1).trans x6; have t7 := (hW.cell (p := ⟨b1, o1 + r * 13 + 7, none⟩) hb1).trans x7; have t8 := (hW.cell (p := ⟨b1, o1 + r * 13 + 8, none⟩) hb1).trans x8; have t9 := (hW.cell (p := ⟨b1, o1 + r * 13 + 9, none⟩) hb1).trans x9; have t10 := (hW.cell (p := ⟨b1, o1 + r * 13 + 10, none⟩) hb1).trans x10; have t11 := (hW.cell (p := ⟨b1, o1 + r * 13 + 11, none⟩) hb1).trans x11; have t12 := (hW.cell (p := ⟨b1, o1 + r * 13 + 12, none⟩) hb1).trans x12; (try simp only at *); go_simp; try with_reducible rfl)
           simp only [Act.put, List.setIfInBounds_toArray, List.set_cons_zero, List.set_cons_succ])
        | (refine wpGrowS_skip (by simp only [List.getElem?_toArray, List.getElem?_cons_succ, List.getElem?_cons_zero]; rfl) (by rfl) ?_
           simp only [Act.put, List.setIfInBounds_toArray, List.set_cons_zero, List.set_cons_succ]))
    refine wpGrowS_call (by simp only [List.getElem?_toArray, List.getElem?_cons_succ, List.getElem?_cons_zero]; rfl) (by rfl) fun K hK => ?_
    go_simp
    go_fit (HID.out _ hS)
    rintro e w2 ⟨v2, rfl, ho2, hb2⟩
    obtain ⟨A2, c2, rfl, _, _, hr2⟩ := ho2.row GId.len
    have hS2 : Below w.heap.size w w2 := beln hS hb2
    have HZ2 := Lib.hid ((show IB w1.drew (w.heap.size + 1) ⟨0, 0, 0⟩ from HZ1.out).next hb2)
    have HPX := Lib.hid (HPR.out A2 c2 w2 hS2 hr2)
    rw [HLL.out] at HPX ⊢
    clear ho2 hb2 hr2
    go_simp
    refine hK _ _ hS2 ?_
    clear hK K
    try simp only [Act.put, List.setIfInBounds_toArray, List.set_cons_zero, List.set_cons_succ]
    refine wpGrowS_call (by simp only [List.getElem?_toArray, List.getElem?_cons_succ, List.getElem?_cons_zero]; rfl) (by rfl) fun K hK => ?_
    go_simp
    go_fit HPX.out
    rintro e w3 ⟨rfl, hb3⟩
    have hS3 : Below w.heap.size w w3 := beln hS2 hb3
    obtain ⟨z0, z1, z2⟩ := (HZ2.out.next hb3).cells
    have zf := (HZ2.out.next hb3).frz
    have zl := (HZ2.out.next hb3).lt
    simp only at z0 z1 z2
    obtain ⟨pi0, pi1, pi2⟩ := pi
    clear hb3 HPX
    go_simp
    refine hK _ _ hS3 ?_
    clear hK K
    try simp only [Act.put, List.setIfInBounds_toArray, List.set_cons_zero, List.set_cons_succ]
    iterate 2
      (first
        | (refine wpGrowS_float (v := ?_) (by simp only [List.getElem?_toArray, List.getElem?_cons_succ, List.getElem?_cons_zero]; rfl) (by rfl) ?_ ?_
           rotate_left
           · (intro W hW; have t2 := (hW.cell (p := ⟨b1, o1 + r * 13 + 2, none⟩) hb1).trans x2; have t3 := (hW.cell (p := ⟨b1, o1 + r * 13 + 3, none⟩) hb1).trans x3; have t4 := (hW.cell (p := ⟨b1, o1 + r * 13 + 4, none⟩) hb1).trans x4; have t5 := (hW.cell (p := ⟨b1, o1 + r * 13 + 5, none⟩) hb1).trans x5; have t6 := (hW.cell (p := ⟨b1, o1 + r * 13 + 6, none⟩) hb1).trans x6; have t7 := (hW.cell (p := ⟨b1, o1 + r * 13 + 7, none⟩) hb1).trans x7; have t8 := (hW.cell (p := ⟨b1, o1 + r * 13 + 8, none⟩) hb1).trans x8; have t9 := (hW.cell (p := ⟨b1, o1 + r * 13 + 9, none⟩) hb1).trans x9; have t10 := (hW.cell (p := ⟨b1, o1 + r * 13 + 10, none⟩) hb1).trans x10; have t11 := (hW.cell (p := ⟨b1, o1 + r * 13 + 11, none⟩) hb1).trans x11; have t12 := (hW.cell (p := ⟨b1, o1 + r * 13 + 12, none⟩) hb1).trans x12; (try simp only at *); go_simp; try with_reducible rfl)
           simp only [Act.put, List.setIfInBounds_toArray, List.set_cons_zero, List.set_cons_succ])
        | (refine wpGrowS_skip (by simp only [List.getElem?_toArray, List.getElem?_cons_succ, List.getElem?_cons_zero]; rfl) (by rfl) ?_
           simp only [Act.put, List.setIfInBounds_toArray, List.set_cons_zero, List.set_cons_succ]))
    refine wpGrowS_call (by simp only [List.getElem?_toArray, List.getElem?_cons_succ, List.getElem?_cons_zero]; rfl) (by rfl) fun K hK => ?_
    go_simp
    have hS4 := ((hS3.setCell (p := ⟨w.heap.size + 1, 0, none⟩) (by simp) (.int .i64 pi0)).setCell (p := ⟨w.heap.size + 1, 1, none⟩) (by simp) (.int .i64 pi1)).setCell (p := ⟨w.heap.size + 1, 2, none⟩) (by simp) (.int .i64 pi2)
    refine hK _ _ hS4 ?_
    clear hK K
    try simp only [Act.put, List.setIfInBounds_toArray, List.set_cons_zero, List.set_cons_succ]
    iterate 1
      (first
        | (refine wpGrowS_float (v := ?_) (by simp only [List.getElem?_toArray, List.getElem?_cons_succ, List.getElem?_cons_zero]; rfl) (by rfl) ?_ ?_
           rotate_left
           · (intro W hW; have t2 := (hW.cell (p := ⟨b1, o1 + r * 13 + 2, none⟩) hb1).trans x2; have t3 := (hW.cell (p := ⟨b1, o1 + r * 13 + 3, none⟩) hb1).trans x3; have t4 := (hW.cell (p := ⟨b1, o1 + r * 13 + 4, none⟩) hb1).trans x4; have t5 := (hW.cell (p := ⟨b1, o1 + r * 13 + 5, none⟩) hb1).trans x5; have t6 := (hW.cell (p := ⟨b1, o1 + r * 13 + 6, none⟩) hb1).trans x6; have t7 := (hW.cell (p := ⟨b1, o1 + r * 13 + 7, none⟩) hb1).trans x7; have t8 := (hW.cell (p := ⟨b1, o1 + r * 13 + 8, none⟩) hb1).trans x8; have t9 := (hW.cell (p := ⟨b1, o1 + r * 13 + 9, none⟩) hb1).trans x9; have t10 := (hW.cell (p := ⟨b1, o1 + r * 13 + 10, none⟩) hb1).trans x10; have t11 := (hW.cell (p := ⟨b1, o1 + r * 13 + 11, none⟩) hb1).trans x11; have t12 := (hW.cell (p := ⟨b1, o1 + r * 13 + 12, none⟩) hb1).trans x12; (try simp only at *); go_simp; try with_reducible rfl)
           simp only [Act.put, List.setIfInBounds_toArray, List.set_cons_zero, List.set_cons_succ])
        | (refine wpGrowS_skip (by simp only [List.getElem?_toArray, List.getElem?_cons_succ, List.getElem?_cons_zero]; rfl) (by rfl) ?_
           simp only [Act.put, List.setIfInBounds_toArray, List.set_cons_zero, List.set_cons_succ]))
    refine wpGrowS_nil ?_
    have HBF := Lib.hid hS4
    clear hS hS2 hS3 hS4 x0 x1 x2 x3 x4 x5 x6 x7 x8 x9 x10 x11 x12 hk0 hk1 hk2 hk3
    go_wp2
    refine bodyPost_ret (v := .tuple #[.agg #[.int .i64 pi0, .int .i64 pi1, .int .i64 pi2], .bool pb]) (by simp [results, Tryz.results23, go_sem, z0, z1, z2]) rfl ?_
    exact ⟨rfl, HBF.out⟩
/-- Whether entries are few and their paths short. -/
def fewE (xs : List GV) : Bool := (xs.take 50).all (fun x => decide (x.e.node.path.length ≤ 20)) && decide (xs.length ≤ 40)
theorem fewE_of {xs : List GV} (h : fewE xs = true) : xs.length ≤ 40 ∧ ∀ x ∈ xs, x.e.node.path.length ≤ 20 := by
  unfold fewE at h
  rw [Bool.and_eq_true, decide_eq_true_eq, List.all_eq_true] at h
  refine ⟨h.2, fun x hx => ?_⟩
  have := h.1 x (by rw [List.take_of_length_le (by omega)]; exact hx)
  simpa using this
set_option maxRecDepth 20000 in
set_option maxHeartbeats 1000000 in
theorem fewE_any (xs : List GV) (A : Option Addr) (c : Nat) (w : World) (h1 : GRow GV.cells 13 w w.heap.size A xs) :
    Calls Tryz.prog 13 #[.slice A xs.length c] w fun e w' => e = .returned (.bool (fewE xs)) ∧ w' = w := by
  have H1 := Lib.hid h1
  have HQ1 : Hid (∀ k (hk : k < xs.length), k < 50 → 20 < xs[k].e.node.path.length → fewE xs = false) := Lib.hid fun k hk h5 h2 => by
    unfold fewE
    rw [Bool.and_eq_false_iff]
    left
    rw [List.all_eq_false]
    refine ⟨xs[k], ?_, by simpa using h2⟩
    rw [List.mem_take_iff_getElem]
    exact ⟨k, by omega, rfl⟩
  have HQ2 : Hid ((∀ k (hk : k < xs.length), k < 50 → xs[k].e.node.path.length ≤ 20) → fewE xs = decide (xs.length ≤ 40)) := Lib.hid fun h => by
    unfold fewE
    have : (xs.take 50).all (fun x => decide (x.e.node.path.length ≤ 20)) = true := by
      rw [List.all_eq_true]
      intro x hx
      rw [List.mem_take_iff_getElem] at hx
      obtain ⟨k, hk, rfl⟩ := hx
      simpa using h k (by omega) (by omega)
    rw [this, Bool.true_and]
  generalize fewE xs = q at *
  clear h1
  go_enter Tryz.func13, Tryz.ntmps13
  go_wp2
  go_loopw [3] (fun vi wr => ∃ k : Nat, vi = .int .i64 k ∧ k ≤ 50 ∧ k ≤ xs.length ∧ Hid (∀ j (hj : j < xs.length), j < k → xs[j].e.node.path.length ≤ 20) ∧ Hid (wr = w)) (fun vi _ => 50 - (intOf vi).toNat)
  case atStart => exact ⟨0, rfl, Nat.zero_le _, Nat.zero_le _, Lib.hid fun j _ hj => absurd hj (by omega), Lib.hid rfl⟩
  case round =>
    obtain ⟨k, rfl, hk, hkl, HT, HB⟩ := hrel
    obtain rfl := HB.out
    by_cases hlt : k < xs.length ∧ k < 50
    · obtain ⟨hl1, hl2⟩ := hlt
      obtain ⟨b1, o1, rfl, hb1, ⟨x0, x1, x2, x3, x4, x5, x6, x7, x8, x9, x10, x11, x12⟩⟩ := H1.out.gev hl1
      by_cases h20 : 20 < xs[k].e.node.path.length
      · have HF := Lib.hid (HQ1.out k hl1 hl2 h20)
        have f2 : decide ((20 : Int) < (xs[k].e.node.path.length : Int)) = true := by simp; omega
        generalize xs[k].e.node.path.length = n at *
        clear x0 x1 x2 x3 x4 x6 x7 x8 x9 x10 x11 x12 HT
        go_wp2
        go_ret
        exact ⟨congrArg (fun b => Ending.returned (Value.bool b)) HF.out.symm, rfl⟩
      · have HT2 : Hid (∀ j (hj : j < xs.length), j < k + 1 → xs[j].e.node.path.length ≤ 20) := Lib.hid fun j hj hjk => by
          rcases Nat.lt_or_ge j k with h | h
          · exact HT.out j hj h
          · obtain rfl : j = k := by omega
            omega
        have f2 : decide ((20 : Int) < (xs[k].e.node.path.length : Int)) = false := by simp; omega
        generalize xs[k].e.node.path.length = n at *
        clear x0 x1 x2 x3 x4 x6 x7 x8 x9 x10 x11 x12 HT
        go_wp2
        go_roundw
        case rel => exact ⟨k + 1, by go_num, by omega, by omega, HT2, Lib.hid (by trivial)⟩
        case measure => simp [intOf]; omega
    · have HF := Lib.hid (HQ2.out fun j hj h5 => HT.out j hj (by omega))
      by_cases hge : k < xs.length
      · have h50 : ¬ k < 50 := fun h => hlt ⟨hge, h⟩
        obtain rfl : k = 50 := by omega
        clear hlt h50
        have HF2 : Hid (q = false) := Lib.hid (by rw [HF.out]; simp; omega)
        go_wp2
        go_ret
        exact ⟨congrArg (fun b => Ending.returned (Value.bool b)) (by rw [HF2.out]; simp; omega), rfl⟩
      · obtain rfl : k = xs.length := by omega
        clear hlt hge
        by_cases h40 : xs.length ≤ 40
        · have HF2 : Hid (q = true) := Lib.hid (by rw [HF.out]; simp; omega)
          go_wp2
          go_ret
          exact ⟨congrArg (fun b => Ending.returned (Value.bool b)) (by rw [HF2.out]; first | rfl | (simp; omega)), rfl⟩
        · have HF2 : Hid (q = false) := Lib.hid (by rw [HF.out]; simp; omega)
          go_wp2
          go_ret
          exact ⟨congrArg (fun b => Ending.returned (Value.bool b)) (by rw [HF2.out]; first | rfl | (simp; omega)), rfl⟩
end Go.Proofs.YtndppbfdcceflaaGreatDoor


namespace Go.Proofs.YtndppbfdcceflaaGreatDoor
open Go.RowKit

set_option maxRecDepth 20000 in
set_option maxHeartbeats 1000000 in
theorem rFreE_any (xs : List GV) (A : Option Addr) (c : Nat) (r : GR) (w : World) (h1 : GRow GV.cells 13 w w.heap.size A xs) (hl : xs.length ≤ 100000) :
    Calls Tryz.prog 42 #[.slice A xs.length c, r.val] w (FreeEnd (freeL r (rngE (xs.map GV.e))) w) := by
  have H1 := Lib.hid h1
  have HMM := Lib.hid fun x W => rRng_any x W
  have HFR := Lib.hid fun A c W (_ : Below w.heap.size w W) (h : GRow GR.cells 2 W W.heap.size A (rngE (xs.map GV.e))) => rFreeL_any r (rngE (xs.map GV.e)) A c W h (by unfold rngE; simp; omega)
  have HST := Lib.hid fun k (hk : k < xs.length) => rngE_succ xs hk
  have HLN : Hid (∀ k, (rngE ((xs.map GV.e).take k)).length ≤ k) := Lib.hid fun k => by unfold rngE; simp; omega
  have HALL : Hid (rngE ((xs.map GV.e).take xs.length) = rngE (xs.map GV.e)) := Lib.hid (by rw [List.take_of_length_le (by simp)])
  have HD0 : Hid (rngE ((xs.map GV.e).take 0) = []) := Lib.hid (by simp [rngE])
  have HX := Lib.hid (RB.new w r)
  have HB0 := Lib.hid (belt (Below.refl _ w) (.cells #[.int .i64 r.base, .int .i64 r.bits] 58))
  have HEND : Hid (∀ e W W2, Below w.heap.size w W → FreeEnd (freeL r (rngE (xs.map GV.e))) W e W2 → FreeEnd (freeL r (rngE (xs.map GV.e))) w e W2) := Lib.hid fun e W W2 hW h => by
    obtain ⟨v, e1, e2, e3⟩ := h
    exact ⟨v, e1, e2.base hW.size, beln hW e3⟩
  have HLL : Hid ((rngE (xs.map GV.e)).length = xs.length) := Lib.hid (by unfold rngE; simp)
  unfold FreeEnd at *
  generalize freeL r (rngE (xs.map GV.e)) = QL at *
  generalize rngE (xs.map GV.e) = RL at *
  obtain ⟨D, hD⟩ : ∃ D : Nat → List GR, ∀ k, rngE ((xs.map GV.e).take k) = D k := ⟨_, fun _ => rfl⟩
  simp only [hD] at HST HLN HALL HD0
  clear h1 hD
  obtain ⟨rb, rn⟩ := r
  simp only [GR.val] at *
  go_enter Tryz.func42, Tryz.ntmps42
  go_wp2
  generalize w.alloc (.cells #[.int .i64 rb, .int .i64 rn] 58) = wI at *
  go_loopw [5, 6] (fun v5 vi wr => ∃ k : Nat, vi = .int .i64 k ∧ k ≤ xs.length ∧ Hid (OwnR wr wI.heap.size v5 (D k)) ∧ Hid (Below wI.heap.size wI wr)) (fun _ vi _ => xs.length - (intOf vi).toNat)
  case atStart => exact ⟨0, rfl, Nat.zero_le _, Lib.hid (by rw [HD0.out]; exact OwnG.nil _ _), Lib.hid (Below.refl _ _)⟩
  case round =>
    obtain ⟨k, rfl, hk, HO, HB⟩ := hrel
    have HBw := Lib.hid (beln HB0.out HB.out)
    rcases Nat.lt_or_ge k xs.length with hlt | hge
    · obtain ⟨An, cn, rfl, hcn, hmn, hrn⟩ := HO.out.row GR.len
      clear hcn hmn hrn
      obtain ⟨b1, o1, rfl, hb1, ⟨x0, x1, x2, x3, x4, x5, x6, x7, x8, x9, x10, x11, x12⟩⟩ := (H1.out.next HBw.out).gev hlt
      have HSK := Lib.hid (HST.out k hlt)
      have HLK := Lib.hid (HLN.out k)
      have HMX := Lib.hid fun W => HMM.out xs[k].e.node.cap W
      generalize xs[k] = x at *
      obtain ⟨⟨xc, xs', ⟨⟨i0, i1, i2⟩, xp, ⟨a0, a1, a2, a3, a4, a5, a6⟩⟩⟩, xA, xcp⟩ := x
      simp only [GC.rng, GC.val] at x0 x1 x2 x3 x4 x5 x6 x7 x8 x9 x10 x11 x12 HSK HMX
      go_wp2_with fail
      go_fit (HMX.out _)
      rintro e w2 ⟨rfl, hb2⟩
      have HB2 := Lib.hid (beln HB.out hb2)
      have HO2 := Lib.hid (HO.out.next hb2)
      clear hb2 x0 x1 x2 x3 x4 x5 x6 x7 x8 x9 x10 x11 x12 HMX
      obtain ⟨v9, w9, hrun9, hown9, hb9⟩ := OwnR.snoc2 HO2.out HB2.out (Nat.le_refl _) HB2.out.size ⟨a1, a2⟩ (by have := HLK.out; omega)
      simp only at hrun9
      have HRUN := Lib.hid hrun9
      have HB9 := Lib.hid hb9
      have HO9 : Hid (OwnR w9 wI.heap.size v9 (D (k + 1))) := Lib.hid (by rw [HSK.out]; exact hown9)
      clear hrun9 hown9 hb9
      generalize (D k).length = dl at *
      go_wp2_with (at_builtin; refine wpList_gapp HRUN.out rfl rfl rfl rfl rfl ?_)
      go_roundw
      case rel => exact ⟨k + 1, by go_num, by omega, HO9, HB9⟩
      case measure => simp [intOf]; omega
    · obtain rfl : k = xs.length := by omega
      obtain ⟨An, cn, rfl, hcn, hmn, hrn⟩ := HO.out.row GR.len
      obtain ⟨r0, r1, _, _⟩ := (HX.out.next HB.out).facts
      rw [HALL.out] at hrn
      rw [HALL.out, HLL.out]
      have HFX := Lib.hid (HFR.out An cn wr HBw.out hrn)
      rw [HLL.out] at HFX
      simp only at r0 r1
      clear hcn hmn hrn
      go_wp2_with fail
      go_fit HFX.out
      rintro e w2 ⟨v, rfl, ho, hb2⟩
      have HF := Lib.hid (HEND.out _ wr w2 HBw.out ⟨v, rfl, ho, hb2⟩)
      clear ho hb2 HFX r0 r1
      go_wp2
      go_ret
      exact HF.out
theorem con_true {xs : List GV} {i : GId} {cs : List GC} {k m : Nat} (hk : k < cs.length) (hm : m < xs.length) (h : (ovR xs[m].e.node.cap.rng cs[k].rng && !prmB (xs.map GV.e) i xs[m].e) = true) : conE (xs.map GV.e) i cs = true := by
  unfold conE
  rw [List.any_eq_true]
  refine ⟨_, List.getElem_mem hk, ?_⟩
  rw [List.any_eq_true]
  exact ⟨xs[m].e, List.mem_map_of_mem (List.getElem_mem hm), h⟩
theorem con_false {xs : List GV} {i : GId} {cs : List GC} (h : ∀ k (hk : k < cs.length) m (hm : m < xs.length), (ovR xs[m].e.node.cap.rng cs[k].rng && !prmB (xs.map GV.e) i xs[m].e) = false) : conE (xs.map GV.e) i cs = false := by
  unfold conE
  rw [List.any_eq_false]
  intro y hy
  obtain ⟨k, hk, rfl⟩ := List.getElem_of_mem hy
  rw [Bool.not_eq_true, List.any_eq_false]
  intro o ho
  obtain ⟨v, hv, rfl⟩ := List.mem_map.1 ho
  obtain ⟨m, hm, rfl⟩ := List.getElem_of_mem hv
  rw [h k hk m hm]
  simp
theorem prm_case2 (xs : List GV) (i : GId) (x : GE) : (fidx (pid i) (xs.map GV.e) < 0 ∧ prmB (xs.map GV.e) i x = false) ∨ (∃ n : Nat, fidx (pid i) (xs.map GV.e) = n ∧ ∃ hn : n < xs.length, prmB (xs.map GV.e) i x = prm2 x xs[n].e) := by
  rcases prm_case xs i x with ⟨h1, h2⟩ | ⟨h1, n, h2, hn, h3⟩
  · exact .inl ⟨by simpa using h1, h2⟩
  · have h4 : 0 ≤ fidx (pid i) (xs.map GV.e) := by simpa using h1
    exact .inr ⟨n, by omega, hn, h3.symm⟩
set_option maxRecDepth 20000 in
set_option maxHeartbeats 2000000 in
theorem rConE_any (xs : List GV) (A : Option Addr) (c : Nat) (i : GId) (cs : List GC) (B : Option Addr) (d : Nat) (w : World)
    (h1 : GRow GV.cells 13 w w.heap.size A xs) (hc : GRow GC.cells 7 w w.heap.size B cs) (hl : xs.length ≤ 100000) (hl2 : cs.length ≤ 100000) :
    Calls Tryz.prog 39 #[.slice A xs.length c, i.val, .slice B cs.length d] w fun e w' => e = .returned (.bool (conE (xs.map GV.e) i cs)) ∧ Below w.heap.size w w' := by
  have HFI := Lib.hid fun W (hW : Below w.heap.size w W) => rFindE_any xs A c i W (h1.next hW) (by omega)
  have H1 := Lib.hid h1
  have H2 := Lib.hid hc
  have HRR := Lib.hid fun y W => rRng_any y W
  have HCC := Lib.hid fun a b W => rCon_any a b W
  have HOO := Lib.hid fun a b W => rOv_any a b W
  have HPC := Lib.hid fun m (hm : m < xs.length) => prm_case2 xs i xs[m].e
  have HQ1 := Lib.hid fun k m (hk : k < cs.length) (hm : m < xs.length) => con_true (i := i) hk hm
  have HQ2 := Lib.hid (con_false (xs := xs) (i := i) (cs := cs))
  have HX := Lib.hid (IB.new w i)
  have HB0 := Lib.hid (belt (Below.refl _ w) (.cells #[.int .i64 i.core, .int .i64 i.op, .int .i64 i.part] 25))
  generalize conE (xs.map GV.e) i cs = q at *
  generalize fidx (pid i) (xs.map GV.e) = r at *
  obtain ⟨P, hP⟩ : ∃ P : GE → Bool, ∀ x, prmB (xs.map GV.e) i x = P x := ⟨_, fun _ => rfl⟩
  simp only [hP] at HPC HQ1 HQ2
  clear h1 hc hP
  obtain ⟨j0, j1, j2⟩ := i
  simp only [GId.val] at *
  obtain ⟨y0, y1, y2⟩ := HX.out.cells
  simp only at y0 y1 y2
  go_enter Tryz.func39, Tryz.ntmps39
  go_wp2_with fail
  go_fit (HFI.out _ HB0.out)
  rintro e w1 ⟨rfl, hb1⟩
  have HB1 := Lib.hid (beln HB0.out hb1)
  clear hb1 HFI HX HB0 y0 y1 y2
  go_wp2
  go_loopw [8] (fun vi wr => ∃ k : Nat, vi = .int .i64 k ∧ k ≤ cs.length ∧ Hid (∀ k' (hk' : k' < cs.length), k' < k → ∀ m (hm : m < xs.length), (ovR xs[m].e.node.cap.rng cs[k'].rng && !P xs[m].e) = false) ∧ Hid (Below w.heap.size w wr)) (fun vi _ => cs.length - (intOf vi).toNat)
  case atStart => exact ⟨0, rfl, Nat.zero_le _, Lib.hid fun k' _ h => absurd h (by omega), HB1⟩
  case round =>
    obtain ⟨k, rfl, hk, HT, HB⟩ := hrel
    clear HB1
    rcases Nat.lt_or_ge k cs.length with hlt | hge
    · go_wp2
      go_loopw [9] (fun vi wr => ∃ m : Nat, vi = .int .i64 m ∧ m ≤ xs.length ∧ Hid (∀ m' (hm : m' < xs.length), m' < m → (ovR xs[m'].e.node.cap.rng cs[k].rng && !P xs[m'].e) = false) ∧ Hid (Below w.heap.size w wr)) (fun vi _ => xs.length - (intOf vi).toNat)
      case atStart => exact ⟨0, rfl, Nat.zero_le _, Lib.hid fun m' _ h => absurd h (by omega), HB⟩
      case round =>
        obtain ⟨m, rfl, hm, HTI, HBI⟩ := hrel
        clear HB
        rcases Nat.lt_or_ge m xs.length with hmt | hmg
        · obtain ⟨bk1, of1, hA, hbk1, ⟨x0, x1, x2, x3, x4, x5, x6, x7, x8, x9, x10, x11, x12⟩⟩ := (H1.out.next HBI.out).gev hmt
          have HPM := Lib.hid (HPC.out m hmt)
          have HQK := Lib.hid (HQ1.out k m hlt hmt)
          have HTK : Hid ((ovR xs[m].e.node.cap.rng cs[k].rng && !P xs[m].e) = false → ∀ m' (hm : m' < xs.length), m' < m + 1 → (ovR xs[m'].e.node.cap.rng cs[k].rng && !P xs[m'].e) = false) := Lib.hid fun h m' hm' hlt' => by
            rcases Nat.lt_or_ge m' m with h3 | h3
            · exact HTI.out m' hm' h3
            · obtain rfl : m' = m := by omega
              exact h
          have HRX := Lib.hid fun W => HRR.out xs[m].e.node.cap W
          have HCX := Lib.hid fun b W => HCC.out xs[m].e.node.cap.rng b W
          have HOZ := Lib.hid fun W => HOO.out xs[m].e.node.cap.rng cs[k].rng W
          have HE8 := Lib.hid (CB.new wr xs[m].e.node.cap)
          subst hA
          obtain ⟨ov, hov⟩ : ∃ ov, ovR xs[m].e.node.cap.rng cs[k].rng = ov := ⟨_, rfl⟩
          obtain ⟨pb, hpb⟩ : ∃ pb, P xs[m].e = pb := ⟨_, rfl⟩
          rw [hov] at HQK HTK HOZ
          rw [hpb] at HQK HTK HPM
          clear hov hpb
          generalize xs[m] = x at *
          obtain ⟨⟨xc, xs', ⟨⟨i0, i1, i2⟩, xp, ⟨a0, a1, a2, a3, a4, a5, a6⟩⟩⟩, xA, xcp⟩ := x
          simp only [GC.rng, GC.val, GR.val] at x0 x1 x2 x3 x4 x5 x6 x7 x8 x9 x10 x11 x12 HRX HE8
          simp only [GC.rng] at HCX HOZ
          go_upto_region 9 with fail
          have HW8 := Lib.hid (belt (Below.refl _ wr) (.cells #[.int .i64 a0, .int .i64 a1, .int .i64 a2, .int .i64 a3, .int .i64 a4, .int .i64 a5, .bool a6] 28))
          clear x0 x1 x2 x3 x4 x5 x6 x7 x8 x9 x10 x11 x12
          generalize wr.alloc (.cells #[.int .i64 a0, .int .i64 a1, .int .i64 a2, .int .i64 a3, .int .i64 a4, .int .i64 a5, .bool a6] 28) = w8 at *
          go_cut [11] (fun vp wx => vp = .bool pb ∧ Hid (Below wr.heap.size wr wx) ∧ Hid (CB wx wr.heap.size ⟨a0, a1, a2, a3, a4, a5, a6⟩))
          case first =>
            obtain ⟨g0, g1, g2, g3, g4, g5, g6⟩ := HE8.out.cells
            have hgl := HE8.out.lt
            simp only at g0 g1 g2 g3 g4 g5 g6
            have HB8 := HW8
            have hS : Below w8.heap.size w8 w8.drew := (Below.refl _ w8).drew
            rcases HPM.out with ⟨hr, rfl⟩ | ⟨n, rfl, hn, hP⟩
            · have d1 : decide (0 ≤ r) = false := by simpa using hr
              refine wp_region_growS (S := fun W => Below w8.heap.size w8 W) [(0, true), (1, true), (2, true), (3, true), (4, true), (5, true), (6, true), (7, true), (8, true), (10, true), (11, true), (12, true), (13, true), (14, true), (15, true), (9, false), (16, false), (17, false), (18, true), (19, true)] (by kernel_rfl) (by kernel_rfl) (by kernel_rfl) (by kernel_rfl) (by intro c a d v w h; cases d <;> exact h) hS ?_
              iterate 15
                (first
                  | (refine wpGrowS_float (v := ?_) (by simp only [List.getElem?_toArray, List.getElem?_cons_succ, List.getElem?_cons_zero]; rfl) (by rfl) ?_ ?_
                     rotate_left
                     · (intro W hW; have t0 := (hW.cell (p := ⟨wr.heap.size, 0, none⟩) hgl).trans g0; have t1 := (hW.cell (p := ⟨wr.heap.size, 1, none⟩) hgl).trans g1; have t2 := (hW.cell (p := ⟨wr.heap.size, 2, none⟩) hgl).trans g2; have t3 := (hW.cell (p := ⟨wr.heap.size, 3, none⟩) hgl).trans g3; have t4 := (hW.cell (p := ⟨wr.heap.size, 4, none⟩) hgl).trans g4; have t5 := (hW.cell (p := ⟨wr.heap.size, 5, none⟩) hgl).trans g5; have t6 := (hW.cell (p := ⟨wr.heap.size, 6, none⟩) hgl).trans g6; (try simp only at *); go_simp; try with_reducible rfl)
                     simp only [Act.put, List.setIfInBounds_toArray, List.set_cons_zero, List.set_cons_succ])
                  | (refine wpGrowS_skip (by simp only [List.getElem?_toArray, List.getElem?_cons_succ, List.getElem?_cons_zero]; rfl) (by rfl) ?_
                     simp only [Act.put, List.setIfInBounds_toArray, List.set_cons_zero, List.set_cons_succ]))
              refine wpGrowS_pass hS (by simp only [List.getElem?_toArray, List.getElem?_cons_succ, List.getElem?_cons_zero]; rfl) (by rfl) ?_
              try simp only [Act.put, List.setIfInBounds_toArray, List.set_cons_zero, List.set_cons_succ]
              refine wpGrowS_pass hS (by simp only [List.getElem?_toArray, List.getElem?_cons_succ, List.getElem?_cons_zero]; rfl) (by rfl) ?_
              try simp only [Act.put, List.setIfInBounds_toArray, List.set_cons_zero, List.set_cons_succ]
              refine wpGrowS_pass hS (by simp only [List.getElem?_toArray, List.getElem?_cons_succ, List.getElem?_cons_zero]; rfl) (by rfl) ?_
              try simp only [Act.put, List.setIfInBounds_toArray, List.set_cons_zero, List.set_cons_succ]
              iterate 2
                (first
                  | (refine wpGrowS_float (v := ?_) (by simp only [List.getElem?_toArray, List.getElem?_cons_succ, List.getElem?_cons_zero]; rfl) (by rfl) ?_ ?_
                     rotate_left
                     · (intro W hW; have t0 := (hW.cell (p := ⟨wr.heap.size, 0, none⟩) hgl).trans g0; have t1 := (hW.cell (p := ⟨wr.heap.size, 1, none⟩) hgl).trans g1; have t2 := (hW.cell (p := ⟨wr.heap.size, 2, none⟩) hgl).trans g2; have t3 := (hW.cell (p := ⟨wr.heap.size, 3, none⟩) hgl).trans g3; have t4 := (hW.cell (p := ⟨wr.heap.size, 4, none⟩) hgl).trans g4; have t5 := (hW.cell (p := ⟨wr.heap.size, 5, none⟩) hgl).trans g5; have t6 := (hW.cell (p := ⟨wr.heap.size, 6, none⟩) hgl).trans g6; (try simp only at *); go_simp; try with_reducible rfl)
                     simp only [Act.put, List.setIfInBounds_toArray, List.set_cons_zero, List.set_cons_succ])
                  | (refine wpGrowS_skip (by simp only [List.getElem?_toArray, List.getElem?_cons_succ, List.getElem?_cons_zero]; rfl) (by rfl) ?_
                     simp only [Act.put, List.setIfInBounds_toArray, List.set_cons_zero, List.set_cons_succ]))
              refine wpGrowS_nil ?_
              have HBQ := Lib.hid (beln HB8.out hS)
              have HEQ := Lib.hid (HE8.out.next hS)
              go_wp2_with fail
              go_meet
              exact ⟨rfl, HBQ, HEQ⟩
            · have d1 : decide (0 ≤ (n : Int)) = true := by simp
              obtain ⟨bk2, of2, hA2, hbk2, ⟨y0, y1, y2, y3, y4, y5, y6, y7, y8, y9, y10, y11, y12⟩⟩ := (H1.out.next (beln HBI.out HW8.out)).gev hn
              obtain ⟨rfl, rfl⟩ : bk1 = bk2 ∧ of1 = of2 := by simpa using hA2
              have HRY := Lib.hid fun W => HRR.out xs[n].e.node.cap W
              have HCY := Lib.hid fun W => HCX.out xs[n].e.node.cap.rng W
              unfold prm2 at hP
              simp only [GC.rng] at hP HCY
              have hn0 : 0 ≤ (n : Int) := by omega
              have hn1 : (n : Int) < (xs.length : Int) := by omega
              have hn2 : (n : Int).toNat = n := by omega
              clear hA2 HCX
              generalize xs[n] = y at *
              obtain ⟨⟨yc, ys', ⟨⟨l0, l1, l2⟩, yp, ⟨e0, e1, e2, e3, e4, e5, e6⟩⟩⟩, yA, ycp⟩ := y
              simp only [GC.val, GC.rng, GR.val] at y0 y1 y2 y3 y4 y5 y6 y7 y8 y9 y10 y11 y12 HRY HCY hP
              rcases hk1 : (a0 == 1) with _ | _
              · rw [hk1, Bool.false_and] at hP
                subst hP
                have hk2 : decide (a0 = 1) = false := hk1
                refine wp_region_growS (S := fun W => Below w8.heap.size w8 W) [(0, true), (1, true), (2, true), (3, true), (4, true), (5, true), (6, true), (7, true), (8, true), (10, true), (11, true), (12, true), (13, true), (14, true), (15, true), (9, false), (16, false), (17, false), (18, true), (19, true)] (by kernel_rfl) (by kernel_rfl) (by kernel_rfl) (by kernel_rfl) (by intro c a d v w h; cases d <;> exact h) hS ?_
                iterate 15
                  (first
                    | (refine wpGrowS_float (v := ?_) (by simp only [List.getElem?_toArray, List.getElem?_cons_succ, List.getElem?_cons_zero]; rfl) (by rfl) ?_ ?_
                       rotate_left
                       · (intro W hW; have t0 := (hW.cell (p := ⟨wr.heap.size, 0, none⟩) hgl).trans g0; have t1 := (hW.cell (p := ⟨wr.heap.size, 1, none⟩) hgl).trans g1; have t2 := (hW.cell (p := ⟨wr.heap.size, 2, none⟩) hgl).trans g2; have t3 := (hW.cell (p := ⟨wr.heap.size, 3, none⟩) hgl).trans g3; have t4 := (hW.cell (p := ⟨wr.heap.size, 4, none⟩) hgl).trans g4; have t5 := (hW.cell (p := ⟨wr.heap.size, 5, none⟩) hgl).trans g5; have t6 := (hW.cell (p := ⟨wr.heap.size, 6, none⟩) hgl).trans g6; (try simp only at *); go_simp; try with_reducible rfl)
                       simp only [Act.put, List.setIfInBounds_toArray, List.set_cons_zero, List.set_cons_succ])
                    | (refine wpGrowS_skip (by simp only [List.getElem?_toArray, List.getElem?_cons_succ, List.getElem?_cons_zero]; rfl) (by rfl) ?_
                       simp only [Act.put, List.setIfInBounds_toArray, List.set_cons_zero, List.set_cons_succ]))
                refine wpGrowS_pass hS (by simp only [List.getElem?_toArray, List.getElem?_cons_succ, List.getElem?_cons_zero]; rfl) (by rfl) ?_
                try simp only [Act.put, List.setIfInBounds_toArray, List.set_cons_zero, List.set_cons_succ]
                refine wpGrowS_pass hS (by simp only [List.getElem?_toArray, List.getElem?_cons_succ, List.getElem?_cons_zero]; rfl) (by rfl) ?_
                try simp only [Act.put, List.setIfInBounds_toArray, List.set_cons_zero, List.set_cons_succ]
                refine wpGrowS_pass hS (by simp only [List.getElem?_toArray, List.getElem?_cons_succ, List.getElem?_cons_zero]; rfl) (by rfl) ?_
                try simp only [Act.put, List.setIfInBounds_toArray, List.set_cons_zero, List.set_cons_succ]
                iterate 2
                  (first
                    | (refine wpGrowS_float (v := ?_) (by simp only [List.getElem?_toArray, List.getElem?_cons_succ, List.getElem?_cons_zero]; rfl) (by rfl) ?_ ?_
                       rotate_left
                       · (intro W hW; have t0 := (hW.cell (p := ⟨wr.heap.size, 0, none⟩) hgl).trans g0; have t1 := (hW.cell (p := ⟨wr.heap.size, 1, none⟩) hgl).trans g1; have t2 := (hW.cell (p := ⟨wr.heap.size, 2, none⟩) hgl).trans g2; have t3 := (hW.cell (p := ⟨wr.heap.size, 3, none⟩) hgl).trans g3; have t4 := (hW.cell (p := ⟨wr.heap.size, 4, none⟩) hgl).trans g4; have t5 := (hW.cell (p := ⟨wr.heap.size, 5, none⟩) hgl).trans g5; have t6 := (hW.cell (p := ⟨wr.heap.size, 6, none⟩) hgl).trans g6; (try simp only at *); go_simp; try with_reducible rfl)
                       simp only [Act.put, List.setIfInBounds_toArray, List.set_cons_zero, List.set_cons_succ])
                    | (refine wpGrowS_skip (by simp only [List.getElem?_toArray, List.getElem?_cons_succ, List.getElem?_cons_zero]; rfl) (by rfl) ?_
                       simp only [Act.put, List.setIfInBounds_toArray, List.set_cons_zero, List.set_cons_succ]))
                refine wpGrowS_nil ?_
                have HBQ := Lib.hid (beln HB8.out hS)
                have HEQ := Lib.hid (HE8.out.next hS)
                go_wp2_with fail
                go_meet
                exact ⟨rfl, HBQ, HEQ⟩
              · rw [hk1, Bool.true_and] at hP
                rw [← hP] at HCY
                clear hP
                have hk2 : decide (a0 = 1) = true := hk1
                refine wp_region_growS (S := fun W => Below w8.heap.size w8 W) [(0, true), (1, true), (2, true), (3, true), (4, true), (5, true), (6, true), (7, true), (8, true), (10, true), (11, true), (12, true), (13, true), (14, true), (15, true), (9, false), (16, false), (17, false), (18, true), (19, true)] (by kernel_rfl) (by kernel_rfl) (by kernel_rfl) (by kernel_rfl) (by intro c a d v w h; cases d <;> exact h) hS ?_
                iterate 15
                  (first
                    | (refine wpGrowS_float (v := ?_) (by simp only [List.getElem?_toArray, List.getElem?_cons_succ, List.getElem?_cons_zero]; rfl) (by rfl) ?_ ?_
                       rotate_left
                       · (intro W hW; have t0 := (hW.cell (p := ⟨wr.heap.size, 0, none⟩) hgl).trans g0; have t1 := (hW.cell (p := ⟨wr.heap.size, 1, none⟩) hgl).trans g1; have t2 := (hW.cell (p := ⟨wr.heap.size, 2, none⟩) hgl).trans g2; have t3 := (hW.cell (p := ⟨wr.heap.size, 3, none⟩) hgl).trans g3; have t4 := (hW.cell (p := ⟨wr.heap.size, 4, none⟩) hgl).trans g4; have t5 := (hW.cell (p := ⟨wr.heap.size, 5, none⟩) hgl).trans g5; have t6 := (hW.cell (p := ⟨wr.heap.size, 6, none⟩) hgl).trans g6; have v6 := (hW.cell (p := ⟨bk1, of1 + n * 13 + 6, none⟩) hbk2).trans y6; have v7 := (hW.cell (p := ⟨bk1, of1 + n * 13 + 7, none⟩) hbk2).trans y7; have v8 := (hW.cell (p := ⟨bk1, of1 + n * 13 + 8, none⟩) hbk2).trans y8; have v9 := (hW.cell (p := ⟨bk1, of1 + n * 13 + 9, none⟩) hbk2).trans y9; have v10 := (hW.cell (p := ⟨bk1, of1 + n * 13 + 10, none⟩) hbk2).trans y10; have v11 := (hW.cell (p := ⟨bk1, of1 + n * 13 + 11, none⟩) hbk2).trans y11; have v12 := (hW.cell (p := ⟨bk1, of1 + n * 13 + 12, none⟩) hbk2).trans y12; (try simp only at *); go_simp; try with_reducible rfl)
                       simp only [Act.put, List.setIfInBounds_toArray, List.set_cons_zero, List.set_cons_succ])
                    | (refine wpGrowS_skip (by simp only [List.getElem?_toArray, List.getElem?_cons_succ, List.getElem?_cons_zero]; rfl) (by rfl) ?_
                       simp only [Act.put, List.setIfInBounds_toArray, List.set_cons_zero, List.set_cons_succ]))
                refine wpGrowS_call (by simp only [List.getElem?_toArray, List.getElem?_cons_succ, List.getElem?_cons_zero]; rfl) (by rfl) fun K hK => ?_
                go_simp
                go_fit (HRX.out _)
                rintro e wn ⟨rfl, hbn⟩
                have hSa := beln hS hbn
                clear hbn
                go_simp
                refine hK _ _ hSa ?_
                clear hK K
                try simp only [Act.put, List.setIfInBounds_toArray, List.set_cons_zero, List.set_cons_succ]
                refine wpGrowS_call (by simp only [List.getElem?_toArray, List.getElem?_cons_succ, List.getElem?_cons_zero]; rfl) (by rfl) fun K hK => ?_
                go_simp
                go_fit (HRY.out _)
                rintro e wn ⟨rfl, hbn⟩
                have hSb := beln hSa hbn
                clear hbn
                go_simp
                refine hK _ _ hSb ?_
                clear hK K
                try simp only [Act.put, List.setIfInBounds_toArray, List.set_cons_zero, List.set_cons_succ]
                refine wpGrowS_call (by simp only [List.getElem?_toArray, List.getElem?_cons_succ, List.getElem?_cons_zero]; rfl) (by rfl) fun K hK => ?_
                go_simp
                go_fit (HCY.out _)
                rintro e wn ⟨rfl, hbn⟩
                have hSc := beln hSb hbn
                clear hbn
                go_simp
                refine hK _ _ hSc ?_
                clear hK K
                try simp only [Act.put, List.setIfInBounds_toArray, List.set_cons_zero, List.set_cons_succ]
                iterate 2
                  (first
                    | (refine wpGrowS_float (v := ?_) (by simp only [List.getElem?_toArray, List.getElem?_cons_succ, List.getElem?_cons_zero]; rfl) (by rfl) ?_ ?_
                       rotate_left
                       · (intro W hW; have t0 := (hW.cell (p := ⟨wr.heap.size, 0, none⟩) hgl).trans g0; have t1 := (hW.cell (p := ⟨wr.heap.size, 1, none⟩) hgl).trans g1; have t2 := (hW.cell (p := ⟨wr.heap.size, 2, none⟩) hgl).trans g2; have t3 := (hW.cell (p := ⟨wr.heap.size, 3, none⟩) hgl).trans g3; have t4 := (hW.cell (p := ⟨wr.heap.size, 4, none⟩) hgl).trans g4; have t5 := (hW.cell (p := ⟨wr.heap.size, 5, none⟩) hgl).trans g5; have t6 := (hW.cell (p := ⟨wr.heap.size, 6, none⟩) hgl).trans g6; have v6 := (hW.cell (p := ⟨bk1, of1 + n * 13 + 6, none⟩) hbk2).trans y6; have v7 := (hW.cell (p := ⟨bk1, of1 + n * 13 + 7, none⟩) hbk2).trans y7; have v8 := (hW.cell (p := ⟨bk1, of1 + n * 13 + 8, none⟩) hbk2).trans y8; have v9 := (hW.cell (p := ⟨bk1, of1 + n * 13 + 9, none⟩) hbk2).trans y9; have v10 := (hW.cell (p := ⟨bk1, of1 + n * 13 + 10, none⟩) hbk2).trans y10; have v11 := (hW.cell (p := ⟨bk1, of1 + n * 13 + 11, none⟩) hbk2).trans y11; have v12 := (hW.cell (p := ⟨bk1, of1 + n * 13 + 12, none⟩) hbk2).trans y12; (try simp only at *); go_simp; try with_reducible rfl)
                       simp only [Act.put, List.setIfInBounds_toArray, List.set_cons_zero, List.set_cons_succ])
                    | (refine wpGrowS_skip (by simp only [List.getElem?_toArray, List.getElem?_cons_succ, List.getElem?_cons_zero]; rfl) (by rfl) ?_
                       simp only [Act.put, List.setIfInBounds_toArray, List.set_cons_zero, List.set_cons_succ]))
                refine wpGrowS_nil ?_
                have HBQ := Lib.hid (beln HB8.out hSc)
                have HEQ := Lib.hid (HE8.out.next hSc)
                go_wp2_with fail
                go_meet
                exact ⟨rfl, HBQ, HEQ⟩
          case rest =>
            obtain ⟨rfl, HW9, HE9⟩ := hcut
            clear HW8 HE8 HPM HCX
            generalize wc = w9 at *
            have HB9 := Lib.hid (beln HBI.out HW9.out)
            obtain ⟨bk3, of3, hB3, hbk3, z0, z1, z2, z3, z4, z5, z6⟩ := (H2.out.next HB9.out).capZ hlt
            subst hB3
            have HRZ := Lib.hid fun W => HRR.out cs[k] W
            obtain ⟨y, hy⟩ : ∃ y, cs[k] = y := ⟨_, rfl⟩
            rw [hy] at z0 z1 z2 z3 z4 z5 z6 HRZ HOZ
            clear hy
            obtain ⟨b0, b1, b2, b3, b4, b5, b6⟩ := y
            simp only [GC.rng, GC.val, GR.val] at z0 z1 z2 z3 z4 z5 z6 HRZ HOZ
            obtain ⟨g0, g1, g2, g3, g4, g5, g6⟩ := HE9.out.cells
            have hgl := HE9.out.lt
            simp only at g0 g1 g2 g3 g4 g5 g6
            have hk0 : 0 ≤ (k : Int) := by omega
            have hk1 : (k : Int) < (cs.length : Int) := by omega
            have hk2 : (k : Int).toNat = k := by omega
            have hS : Below w9.heap.size w9 w9.drew := (Below.refl _ w9).drew
            go_upto_region 10 with fail
            rcases ov with _ | _
            · rw [Bool.false_and] at HTK
              rcases pb with _ | _
              · refine wp_region_growS (S := fun W => Below w9.heap.size w9 W) [(0, true), (2, true), (3, true), (4, true), (5, true), (1, false), (6, false), (7, false), (8, true), (9, true), (10, true), (11, true)] (by kernel_rfl) (by kernel_rfl) (by kernel_rfl) (by kernel_rfl) (by intro c a d v w h; cases d <;> exact h) hS ?_
                iterate 5
                  (first
                    | (refine wpGrowS_float (v := ?_) (by simp only [List.getElem?_toArray, List.getElem?_cons_succ, List.getElem?_cons_zero]; rfl) (by rfl) ?_ ?_
                       rotate_left
                       · (intro W hW; have t0 := (hW.cell (p := ⟨wr.heap.size, 0, none⟩) hgl).trans g0; have t1 := (hW.cell (p := ⟨wr.heap.size, 1, none⟩) hgl).trans g1; have t2 := (hW.cell (p := ⟨wr.heap.size, 2, none⟩) hgl).trans g2; have t3 := (hW.cell (p := ⟨wr.heap.size, 3, none⟩) hgl).trans g3; have t4 := (hW.cell (p := ⟨wr.heap.size, 4, none⟩) hgl).trans g4; have t5 := (hW.cell (p := ⟨wr.heap.size, 5, none⟩) hgl).trans g5; have t6 := (hW.cell (p := ⟨wr.heap.size, 6, none⟩) hgl).trans g6; have v0 := (hW.cell (p := ⟨bk3, of3 + k * 7, none⟩) hbk3).trans z0; have v1 := (hW.cell (p := ⟨bk3, of3 + k * 7 + 1, none⟩) hbk3).trans z1; have v2 := (hW.cell (p := ⟨bk3, of3 + k * 7 + 2, none⟩) hbk3).trans z2; have v3 := (hW.cell (p := ⟨bk3, of3 + k * 7 + 3, none⟩) hbk3).trans z3; have v4 := (hW.cell (p := ⟨bk3, of3 + k * 7 + 4, none⟩) hbk3).trans z4; have v5 := (hW.cell (p := ⟨bk3, of3 + k * 7 + 5, none⟩) hbk3).trans z5; have v6 := (hW.cell (p := ⟨bk3, of3 + k * 7 + 6, none⟩) hbk3).trans z6; (try simp only at *); go_simp; try with_reducible rfl)
                       simp only [Act.put, List.setIfInBounds_toArray, List.set_cons_zero, List.set_cons_succ])
                    | (refine wpGrowS_skip (by simp only [List.getElem?_toArray, List.getElem?_cons_succ, List.getElem?_cons_zero]; rfl) (by rfl) ?_
                       simp only [Act.put, List.setIfInBounds_toArray, List.set_cons_zero, List.set_cons_succ]))
                refine wpGrowS_call (by simp only [List.getElem?_toArray, List.getElem?_cons_succ, List.getElem?_cons_zero]; rfl) (by rfl) fun K hK => ?_
                go_simp
                go_fit (HRX.out _)
                rintro e wn ⟨rfl, hbn⟩
                have hSa := beln hS hbn
                clear hbn
                go_simp
                refine hK _ _ hSa ?_
                clear hK K
                try simp only [Act.put, List.setIfInBounds_toArray, List.set_cons_zero, List.set_cons_succ]
                refine wpGrowS_call (by simp only [List.getElem?_toArray, List.getElem?_cons_succ, List.getElem?_cons_zero]; rfl) (by rfl) fun K hK => ?_
                go_simp
                go_fit (HRZ.out _)
                rintro e wn ⟨rfl, hbn⟩
                have hSb := beln hSa hbn
                clear hbn
                go_simp
                refine hK _ _ hSb ?_
                clear hK K
                try simp only [Act.put, List.setIfInBounds_toArray, List.set_cons_zero, List.set_cons_succ]
                refine wpGrowS_call (by simp only [List.getElem?_toArray, List.getElem?_cons_succ, List.getElem?_cons_zero]; rfl) (by rfl) fun K hK => ?_
                go_simp
                go_fit (HOZ.out _)
                rintro e wn ⟨rfl, hbn⟩
                have hSc := beln hSb hbn
                clear hbn
                go_simp
                refine hK _ _ hSc ?_
                clear hK K
                try simp only [Act.put, List.setIfInBounds_toArray, List.set_cons_zero, List.set_cons_succ]
                iterate 4
                  (first
                    | (refine wpGrowS_float (v := ?_) (by simp only [List.getElem?_toArray, List.getElem?_cons_succ, List.getElem?_cons_zero]; rfl) (by rfl) ?_ ?_
                       rotate_left
                       · (intro W hW; have t0 := (hW.cell (p := ⟨wr.heap.size, 0, none⟩) hgl).trans g0; have t1 := (hW.cell (p := ⟨wr.heap.size, 1, none⟩) hgl).trans g1; have t2 := (hW.cell (p := ⟨wr.heap.size, 2, none⟩) hgl).trans g2; have t3 := (hW.cell (p := ⟨wr.heap.size, 3, none⟩) hgl).trans g3; have t4 := (hW.cell (p := ⟨wr.heap.size, 4, none⟩) hgl).trans g4; have t5 := (hW.cell (p := ⟨wr.heap.size, 5, none⟩) hgl).trans g5; have t6 := (hW.cell (p := ⟨wr.heap.size, 6, none⟩) hgl).trans g6; have v0 := (hW.cell (p := ⟨bk3, of3 + k * 7, none⟩) hbk3).trans z0; have v1 := (hW.cell (p := ⟨bk3, of3 + k * 7 + 1, none⟩) hbk3).trans z1; have v2 := (hW.cell (p := ⟨bk3, of3 + k * 7 + 2, none⟩) hbk3).trans z2; have v3 := (hW.cell (p := ⟨bk3, of3 + k * 7 + 3, none⟩) hbk3).trans z3; have v4 := (hW.cell (p := ⟨bk3, of3 + k * 7 + 4, none⟩) hbk3).trans z4; have v5 := (hW.cell (p := ⟨bk3, of3 + k * 7 + 5, none⟩) hbk3).trans z5; have v6 := (hW.cell (p := ⟨bk3, of3 + k * 7 + 6, none⟩) hbk3).trans z6; (try simp only at *); go_simp; try with_reducible rfl)
                       simp only [Act.put, List.setIfInBounds_toArray, List.set_cons_zero, List.set_cons_succ])
                    | (refine wpGrowS_skip (by simp only [List.getElem?_toArray, List.getElem?_cons_succ, List.getElem?_cons_zero]; rfl) (by rfl) ?_
                       simp only [Act.put, List.setIfInBounds_toArray, List.set_cons_zero, List.set_cons_succ]))
                refine wpGrowS_nil ?_
                have HBF := Lib.hid (beln HB9.out hSc)
                clear hS hSa hSb hSc g0 g1 g2 g3 g4 g5 g6 z0 z1 z2 z3 z4 z5 z6 hgl hk0 hk1 hk2
                have HTN := Lib.hid (HTK.out rfl)
                go_wp2
                go_roundw
                case rel => exact ⟨m + 1, by go_num, by omega, HTN, HBF⟩
                case measure => simp [intOf]; omega
              · refine wp_region_growS (S := fun W => Below w9.heap.size w9 W) [(0, true), (2, true), (3, true), (4, true), (5, true), (1, false), (6, false), (7, false), (8, true), (9, true), (10, true), (11, true)] (by kernel_rfl) (by kernel_rfl) (by kernel_rfl) (by kernel_rfl) (by intro c a d v w h; cases d <;> exact h) hS ?_
                iterate 5
                  (first
                    | (refine wpGrowS_float (v := ?_) (by simp only [List.getElem?_toArray, List.getElem?_cons_succ, List.getElem?_cons_zero]; rfl) (by rfl) ?_ ?_
                       rotate_left
                       · (intro W hW; have t0 := (hW.cell (p := ⟨wr.heap.size, 0, none⟩) hgl).trans g0; have t1 := (hW.cell (p := ⟨wr.heap.size, 1, none⟩) hgl).trans g1; have t2 := (hW.cell (p := ⟨wr.heap.size, 2, none⟩) hgl).trans g2; have t3 := (hW.cell (p := ⟨wr.heap.size, 3, none⟩) hgl).trans g3; have t4 := (hW.cell (p := ⟨wr.heap.size, 4, none⟩) hgl).trans g4; have t5 := (hW.cell (p := ⟨wr.heap.size, 5, none⟩) hgl).trans g5; have t6 := (hW.cell (p := ⟨wr.heap.size, 6, none⟩) hgl).trans g6; have v0 := (hW.cell (p := ⟨bk3, of3 + k * 7, none⟩) hbk3).trans z0; have v1 := (hW.cell (p := ⟨bk3, of3 + k * 7 + 1, none⟩) hbk3).trans z1; have v2 := (hW.cell (p := ⟨bk3, of3 + k * 7 + 2, none⟩) hbk3).trans z2; have v3 := (hW.cell (p := ⟨bk3, of3 + k * 7 + 3, none⟩) hbk3).trans z3; have v4 := (hW.cell (p := ⟨bk3, of3 + k * 7 + 4, none⟩) hbk3).trans z4; have v5 := (hW.cell (p := ⟨bk3, of3 + k * 7 + 5, none⟩) hbk3).trans z5; have v6 := (hW.cell (p := ⟨bk3, of3 + k * 7 + 6, none⟩) hbk3).trans z6; (try simp only at *); go_simp; try with_reducible rfl)
                       simp only [Act.put, List.setIfInBounds_toArray, List.set_cons_zero, List.set_cons_succ])
                    | (refine wpGrowS_skip (by simp only [List.getElem?_toArray, List.getElem?_cons_succ, List.getElem?_cons_zero]; rfl) (by rfl) ?_
                       simp only [Act.put, List.setIfInBounds_toArray, List.set_cons_zero, List.set_cons_succ]))
                refine wpGrowS_call (by simp only [List.getElem?_toArray, List.getElem?_cons_succ, List.getElem?_cons_zero]; rfl) (by rfl) fun K hK => ?_
                go_simp
                go_fit (HRX.out _)
                rintro e wn ⟨rfl, hbn⟩
                have hSa := beln hS hbn
                clear hbn
                go_simp
                refine hK _ _ hSa ?_
                clear hK K
                try simp only [Act.put, List.setIfInBounds_toArray, List.set_cons_zero, List.set_cons_succ]
                refine wpGrowS_call (by simp only [List.getElem?_toArray, List.getElem?_cons_succ, List.getElem?_cons_zero]; rfl) (by rfl) fun K hK => ?_
                go_simp
                go_fit (HRZ.out _)
                rintro e wn ⟨rfl, hbn⟩
                have hSb := beln hSa hbn
                clear hbn
                go_simp
                refine hK _ _ hSb ?_
                clear hK K
                try simp only [Act.put, List.setIfInBounds_toArray, List.set_cons_zero, List.set_cons_succ]
                refine wpGrowS_call (by simp only [List.getElem?_toArray, List.getElem?_cons_succ, List.getElem?_cons_zero]; rfl) (by rfl) fun K hK => ?_
                go_simp
                go_fit (HOZ.out _)
                rintro e wn ⟨rfl, hbn⟩
                have hSc := beln hSb hbn
                clear hbn
                go_simp
                refine hK _ _ hSc ?_
                clear hK K
                try simp only [Act.put, List.setIfInBounds_toArray, List.set_cons_zero, List.set_cons_succ]
                iterate 4
                  (first
                    | (refine wpGrowS_float (v := ?_) (by simp only [List.getElem?_toArray, List.getElem?_cons_succ, List.getElem?_cons_zero]; rfl) (by rfl) ?_ ?_
                       rotate_left
                       · (intro W hW; have t0 := (hW.cell (p := ⟨wr.heap.size, 0, none⟩) hgl).trans g0; have t1 := (hW.cell (p := ⟨wr.heap.size, 1, none⟩) hgl).trans g1; have t2 := (hW.cell (p := ⟨wr.heap.size, 2, none⟩) hgl).trans g2; have t3 := (hW.cell (p := ⟨wr.heap.size, 3, none⟩) hgl).trans g3; have t4 := (hW.cell (p := ⟨wr.heap.size, 4, none⟩) hgl).trans g4; have t5 := (hW.cell (p := ⟨wr.heap.size, 5, none⟩) hgl).trans g5; have t6 := (hW.cell (p := ⟨wr.heap.size, 6, none⟩) hgl).trans g6; have v0 := (hW.cell (p := ⟨bk3, of3 + k * 7, none⟩) hbk3).trans z0; have v1 := (hW.cell (p := ⟨bk3, of3 + k * 7 + 1, none⟩) hbk3).trans z1; have v2 := (hW.cell (p := ⟨bk3, of3 + k * 7 + 2, none⟩) hbk3).trans z2; have v3 := (hW.cell (p := ⟨bk3, of3 + k * 7 + 3, none⟩) hbk3).trans z3; have v4 := (hW.cell (p := ⟨bk3, of3 + k * 7 + 4, none⟩) hbk3).trans z4; have v5 := (hW.cell (p := ⟨bk3, of3 + k * 7 + 5, none⟩) hbk3).trans z5; have v6 := (hW.cell (p := ⟨bk3, of3 + k * 7 + 6, none⟩) hbk3).trans z6; (try simp only at *); go_simp; try with_reducible rfl)
                       simp only [Act.put, List.setIfInBounds_toArray, List.set_cons_zero, List.set_cons_succ])
                    | (refine wpGrowS_skip (by simp only [List.getElem?_toArray, List.getElem?_cons_succ, List.getElem?_cons_zero]; rfl) (by rfl) ?_
                       simp only [Act.put, List.setIfInBounds_toArray, List.set_cons_zero, List.set_cons_succ]))
                refine wpGrowS_nil ?_
                have HBF := Lib.hid (beln HB9.out hSc)
                clear hS hSa hSb hSc g0 g1 g2 g3 g4 g5 g6 z0 z1 z2 z3 z4 z5 z6 hgl hk0 hk1 hk2
                have HTN := Lib.hid (HTK.out rfl)
                go_wp2
                go_roundw
                case rel => exact ⟨m + 1, by go_num, by omega, HTN, HBF⟩
                case measure => simp [intOf]; omega
            · rcases pb with _ | _
              · refine wp_region_growS (S := fun W => Below w9.heap.size w9 W) [(0, true), (2, true), (3, true), (4, true), (5, true), (1, false), (6, false), (7, false), (8, true), (9, true), (10, true), (11, true)] (by kernel_rfl) (by kernel_rfl) (by kernel_rfl) (by kernel_rfl) (by intro c a d v w h; cases d <;> exact h) hS ?_
                iterate 5
                  (first
                    | (refine wpGrowS_float (v := ?_) (by simp only [List.getElem?_toArray, List.getElem?_cons_succ, List.getElem?_cons_zero]; rfl) (by rfl) ?_ ?_
                       rotate_left
                       · (intro W hW; have t0 := (hW.cell (p := ⟨wr.heap.size, 0, none⟩) hgl).trans g0; have t1 := (hW.cell (p := ⟨wr.heap.size, 1, none⟩) hgl).trans g1; have t2 := (hW.cell (p := ⟨wr.heap.size, 2, none⟩) hgl).trans g2; have t3 := (hW.cell (p := ⟨wr.heap.size, 3, none⟩) hgl).trans g3; have t4 := (hW.cell (p := ⟨wr.heap.size, 4, none⟩) hgl).trans g4; have t5 := (hW.cell (p := ⟨wr.heap.size, 5, none⟩) hgl).trans g5; have t6 := (hW.cell (p := ⟨wr.heap.size, 6, none⟩) hgl).trans g6; have v0 := (hW.cell (p := ⟨bk3, of3 + k * 7, none⟩) hbk3).trans z0; have v1 := (hW.cell (p := ⟨bk3, of3 + k * 7 + 1, none⟩) hbk3).trans z1; have v2 := (hW.cell (p := ⟨bk3, of3 + k * 7 + 2, none⟩) hbk3).trans z2; have v3 := (hW.cell (p := ⟨bk3, of3 + k * 7 + 3, none⟩) hbk3).trans z3; have v4 := (hW.cell (p := ⟨bk3, of3 + k * 7 + 4, none⟩) hbk3).trans z4; have v5 := (hW.cell (p := ⟨bk3, of3 + k * 7 + 5, none⟩) hbk3).trans z5; have v6 := (hW.cell (p := ⟨bk3, of3 + k * 7 + 6, none⟩) hbk3).trans z6; (try simp only at *); go_simp; try with_reducible rfl)
                       simp only [Act.put, List.setIfInBounds_toArray, List.set_cons_zero, List.set_cons_succ])
                    | (refine wpGrowS_skip (by simp only [List.getElem?_toArray, List.getElem?_cons_succ, List.getElem?_cons_zero]; rfl) (by rfl) ?_
                       simp only [Act.put, List.setIfInBounds_toArray, List.set_cons_zero, List.set_cons_succ]))
                refine wpGrowS_call (by simp only [List.getElem?_toArray, List.getElem?_cons_succ, List.getElem?_cons_zero]; rfl) (by rfl) fun K hK => ?_
                go_simp
                go_fit (HRX.out _)
                rintro e wn ⟨rfl, hbn⟩
                have hSa := beln hS hbn
                clear hbn
                go_simp
                refine hK _ _ hSa ?_
                clear hK K
                try simp only [Act.put, List.setIfInBounds_toArray, List.set_cons_zero, List.set_cons_succ]
                refine wpGrowS_call (by simp only [List.getElem?_toArray, List.getElem?_cons_succ, List.getElem?_cons_zero]; rfl) (by rfl) fun K hK => ?_
                go_simp
                go_fit (HRZ.out _)
                rintro e wn ⟨rfl, hbn⟩
                have hSb := beln hSa hbn
                clear hbn
                go_simp
                refine hK _ _ hSb ?_
                clear hK K
                try simp only [Act.put, List.setIfInBounds_toArray, List.set_cons_zero, List.set_cons_succ]
                refine wpGrowS_call (by simp only [List.getElem?_toArray, List.getElem?_cons_succ, List.getElem?_cons_zero]; rfl) (by rfl) fun K hK => ?_
                go_simp
                go_fit (HOZ.out _)
                rintro e wn ⟨rfl, hbn⟩
                have hSc := beln hSb hbn
                clear hbn
                go_simp
                refine hK _ _ hSc ?_
                clear hK K
                try simp only [Act.put, List.setIfInBounds_toArray, List.set_cons_zero, List.set_cons_succ]
                iterate 4
                  (first
                    | (refine wpGrowS_float (v := ?_) (by simp only [List.getElem?_toArray, List.getElem?_cons_succ, List.getElem?_cons_zero]; rfl) (by rfl) ?_ ?_
                       rotate_left
                       · (intro W hW; have t0 := (hW.cell (p := ⟨wr.heap.size, 0, none⟩) hgl).trans g0; have t1 := (hW.cell (p := ⟨wr.heap.size, 1, none⟩) hgl).trans g1; have t2 := (hW.cell (p := ⟨wr.heap.size, 2, none⟩) hgl).trans g2; have t3 := (hW.cell (p := ⟨wr.heap.size, 3, none⟩) hgl).trans g3; have t4 := (hW.cell (p := ⟨wr.heap.size, 4, none⟩) hgl).trans g4; have t5 := (hW.cell (p := ⟨wr.heap.size, 5, none⟩) hgl).trans g5; have t6 := (hW.cell (p := ⟨wr.heap.size, 6, none⟩) hgl).trans g6; have v0 := (hW.cell (p := ⟨bk3, of3 + k * 7, none⟩) hbk3).trans z0; have v1 := (hW.cell (p := ⟨bk3, of3 + k * 7 + 1, none⟩) hbk3).trans z1; have v2 := (hW.cell (p := ⟨bk3, of3 + k * 7 + 2, none⟩) hbk3).trans z2; have v3 := (hW.cell (p := ⟨bk3, of3 + k * 7 + 3, none⟩) hbk3).trans z3; have v4 := (hW.cell (p := ⟨bk3, of3 + k * 7 + 4, none⟩) hbk3).trans z4; have v5 := (hW.cell (p := ⟨bk3, of3 + k * 7 + 5, none⟩) hbk3).trans z5; have v6 := (hW.cell (p := ⟨bk3, of3 + k * 7 + 6, none⟩) hbk3).trans z6; (try simp only at *); go_simp; try with_reducible rfl)
                       simp only [Act.put, List.setIfInBounds_toArray, List.set_cons_zero, List.set_cons_succ])
                    | (refine wpGrowS_skip (by simp only [List.getElem?_toArray, List.getElem?_cons_succ, List.getElem?_cons_zero]; rfl) (by rfl) ?_
                       simp only [Act.put, List.setIfInBounds_toArray, List.set_cons_zero, List.set_cons_succ]))
                refine wpGrowS_nil ?_
                have HBF := Lib.hid (beln HB9.out hSc)
                clear hS hSa hSb hSc g0 g1 g2 g3 g4 g5 g6 z0 z1 z2 z3 z4 z5 z6 hgl hk0 hk1 hk2
                obtain rfl : q = true := HQK.out rfl
                go_wp2
                go_ret
                exact ⟨rfl, HBF.out⟩
              · refine wp_region_growS (S := fun W => Below w9.heap.size w9 W) [(0, true), (2, true), (3, true), (4, true), (5, true), (1, false), (6, false), (7, false), (8, true), (9, true), (10, true), (11, true)] (by kernel_rfl) (by kernel_rfl) (by kernel_rfl) (by kernel_rfl) (by intro c a d v w h; cases d <;> exact h) hS ?_
                iterate 5
                  (first
                    | (refine wpGrowS_float (v := ?_) (by simp only [List.getElem?_toArray, List.getElem?_cons_succ, List.getElem?_cons_zero]; rfl) (by rfl) ?_ ?_
                       rotate_left
                       · (intro W hW; have t0 := (hW.cell (p := ⟨wr.heap.size, 0, none⟩) hgl).trans g0; have t1 := (hW.cell (p := ⟨wr.heap.size, 1, none⟩) hgl).trans g1; have t2 := (hW.cell (p := ⟨wr.heap.size, 2, none⟩) hgl).trans g2; have t3 := (hW.cell (p := ⟨wr.heap.size, 3, none⟩) hgl).trans g3; have t4 := (hW.cell (p := ⟨wr.heap.size, 4, none⟩) hgl).trans g4; have t5 := (hW.cell (p := ⟨wr.heap.size, 5, none⟩) hgl).trans g5; have t6 := (hW.cell (p := ⟨wr.heap.size, 6, none⟩) hgl).trans g6; have v0 := (hW.cell (p := ⟨bk3, of3 + k * 7, none⟩) hbk3).trans z0; have v1 := (hW.cell (p := ⟨bk3, of3 + k * 7 + 1, none⟩) hbk3).trans z1; have v2 := (hW.cell (p := ⟨bk3, of3 + k * 7 + 2, none⟩) hbk3).trans z2; have v3 := (hW.cell (p := ⟨bk3, of3 + k * 7 + 3, none⟩) hbk3).trans z3; have v4 := (hW.cell (p := ⟨bk3, of3 + k * 7 + 4, none⟩) hbk3).trans z4; have v5 := (hW.cell (p := ⟨bk3, of3 + k * 7 + 5, none⟩) hbk3).trans z5; have v6 := (hW.cell (p := ⟨bk3, of3 + k * 7 + 6, none⟩) hbk3).trans z6; (try simp only at *); go_simp; try with_reducible rfl)
                       simp only [Act.put, List.setIfInBounds_toArray, List.set_cons_zero, List.set_cons_succ])
                    | (refine wpGrowS_skip (by simp only [List.getElem?_toArray, List.getElem?_cons_succ, List.getElem?_cons_zero]; rfl) (by rfl) ?_
                       simp only [Act.put, List.setIfInBounds_toArray, List.set_cons_zero, List.set_cons_succ]))
                refine wpGrowS_call (by simp only [List.getElem?_toArray, List.getElem?_cons_succ, List.getElem?_cons_zero]; rfl) (by rfl) fun K hK => ?_
                go_simp
                go_fit (HRX.out _)
                rintro e wn ⟨rfl, hbn⟩
                have hSa := beln hS hbn
                clear hbn
                go_simp
                refine hK _ _ hSa ?_
                clear hK K
                try simp only [Act.put, List.setIfInBounds_toArray, List.set_cons_zero, List.set_cons_succ]
                refine wpGrowS_call (by simp only [List.getElem?_toArray, List.getElem?_cons_succ, List.getElem?_cons_zero]; rfl) (by rfl) fun K hK => ?_
                go_simp
                go_fit (HRZ.out _)
                rintro e wn ⟨rfl, hbn⟩
                have hSb := beln hSa hbn
                clear hbn
                go_simp
                refine hK _ _ hSb ?_
                clear hK K
                try simp only [Act.put, List.setIfInBounds_toArray, List.set_cons_zero, List.set_cons_succ]
                refine wpGrowS_call (by simp only [List.getElem?_toArray, List.getElem?_cons_succ, List.getElem?_cons_zero]; rfl) (by rfl) fun K hK => ?_
                go_simp
                go_fit (HOZ.out _)
                rintro e wn ⟨rfl, hbn⟩
                have hSc := beln hSb hbn
                clear hbn
                go_simp
                refine hK _ _ hSc ?_
                clear hK K
                try simp only [Act.put, List.setIfInBounds_toArray, List.set_cons_zero, List.set_cons_succ]
                iterate 4
                  (first
                    | (refine wpGrowS_float (v := ?_) (by simp only [List.getElem?_toArray, List.getElem?_cons_succ, List.getElem?_cons_zero]; rfl) (by rfl) ?_ ?_
                       rotate_left
                       · (intro W hW; have t0 := (hW.cell (p := ⟨wr.heap.size, 0, none⟩) hgl).trans g0; have t1 := (hW.cell (p := ⟨wr.heap.size, 1, none⟩) hgl).trans g1; have t2 := (hW.cell (p := ⟨wr.heap.size, 2, none⟩) hgl).trans g2; have t3 := (hW.cell (p := ⟨wr.heap.size, 3, none⟩) hgl).trans g3; have t4 := (hW.cell (p := ⟨wr.heap.size, 4, none⟩) hgl).trans g4; have t5 := (hW.cell (p := ⟨wr.heap.size, 5, none⟩) hgl).trans g5; have t6 := (hW.cell (p := ⟨wr.heap.size, 6, none⟩) hgl).trans g6; have v0 := (hW.cell (p := ⟨bk3, of3 + k * 7, none⟩) hbk3).trans z0; have v1 := (hW.cell (p := ⟨bk3, of3 + k * 7 + 1, none⟩) hbk3).trans z1; have v2 := (hW.cell (p := ⟨bk3, of3 + k * 7 + 2, none⟩) hbk3).trans z2; have v3 := (hW.cell (p := ⟨bk3, of3 + k * 7 + 3, none⟩) hbk3).trans z3; have v4 := (hW.cell (p := ⟨bk3, of3 + k * 7 + 4, none⟩) hbk3).trans z4; have v5 := (hW.cell (p := ⟨bk3, of3 + k * 7 + 5, none⟩) hbk3).trans z5; have v6 := (hW.cell (p := ⟨bk3, of3 + k * 7 + 6, none⟩) hbk3).trans z6; (try simp only at *); go_simp; try with_reducible rfl)
                       simp only [Act.put, List.setIfInBounds_toArray, List.set_cons_zero, List.set_cons_succ])
                    | (refine wpGrowS_skip (by simp only [List.getElem?_toArray, List.getElem?_cons_succ, List.getElem?_cons_zero]; rfl) (by rfl) ?_
                       simp only [Act.put, List.setIfInBounds_toArray, List.set_cons_zero, List.set_cons_succ]))
                refine wpGrowS_nil ?_
                have HBF := Lib.hid (beln HB9.out hSc)
                clear hS hSa hSb hSc g0 g1 g2 g3 g4 g5 g6 z0 z1 z2 z3 z4 z5 z6 hgl hk0 hk1 hk2
                have HTN := Lib.hid (HTK.out rfl)
                go_wp2
                go_roundw
                case rel => exact ⟨m + 1, by go_num, by omega, HTN, HBF⟩
                case measure => simp [intOf]; omega
        · obtain rfl : m = xs.length := by omega
          have HTN : Hid (∀ k' (hk' : k' < cs.length), k' < k + 1 → ∀ m (hm : m < xs.length), (ovR xs[m].e.node.cap.rng cs[k'].rng && !P xs[m].e) = false) := Lib.hid fun k' hk' h3 m hm => by
            rcases Nat.lt_or_ge k' k with h4 | h4
            · exact HT.out k' hk' h4 m hm
            · obtain rfl : k' = k := by omega
              exact HTI.out m hm hm
          go_wp2
          go_roundw
          case rel => exact ⟨k + 1, by go_num, by omega, HTN, HBI⟩
          case measure => simp [intOf]; omega
    · obtain rfl : k = cs.length := by omega
      obtain rfl : q = false := HQ2.out fun k' hk' m hm => HT.out k' hk' hk' m hm
      go_wp2
      go_ret
      exact ⟨rfl, HB.out⟩
end Go.Proofs.YtndppbfdcceflaaGreatDoor


namespace Go.Proofs.YtndppbfdcceflaaGreatDoor
open Go.RowKit

set_option maxRecDepth 20000 in
set_option maxHeartbeats 4000000 in
theorem lcon13 (xs : List GV) (A : Option Addr) (c : Nat) (i : GId) (cs : List GC) (B : Option Addr) (d : Nat) (r : GR) (w : World) (h1 : ERow w w.heap.size A xs) (hc : GRow GC.cells 7 w w.heap.size B cs) (hG : T10 w) :
    Calls Tryz.prog 6 #[.slice A xs.length c, i.val, .slice B cs.length d, r.val] w fun e w' => e = .returned (.bool true) ∧ Below w.heap.size w w' := by
  have HAW := Lib.hid fun W (hW : Below w.heap.size w W) => awake13 W (T10.next hG hW)
  have HFW := Lib.hid fun W (hW : Below w.heap.size w W) => fewE_any xs A c W (h1.row.next hW)
  have HI0 := Lib.hid ((IB.new w i).next (belt (Below.refl _ _) (.cells #[.int .i64 r.base, .int .i64 r.bits] 58)))
  have HR0 : Hid (RB ((w.alloc (.cells #[.int .i64 i.core, .int .i64 i.op, .int .i64 i.part] 25)).alloc (.cells #[.int .i64 r.base, .int .i64 r.bits] 58)) (w.heap.size + 1) r) := Lib.hid (by
    have h := RB.new (w.alloc (.cells #[.int .i64 i.core, .int .i64 i.op, .int .i64 i.part] 25)) r
    rw [World.size_alloc] at h
    exact h)
  have HB0 := Lib.hid (belt (belt (Below.refl _ w) (.cells #[.int .i64 i.core, .int .i64 i.op, .int .i64 i.part] 25)) (.cells #[.int .i64 r.base, .int .i64 r.bits] 58))
  cases hfw : fewE xs
  · rw [hfw] at HFW
    clear hfw h1 hc hG HI0 HR0
    obtain ⟨j0, j1, j2⟩ := i
    obtain ⟨rb, rn⟩ := r
    simp only [GR.val, GId.val] at *
    go_enter Tryz.func6, Tryz.ntmps6
    go_wp2_with fail
    go_fit (HFW.out _ HB0.out)
    rintro e w1 ⟨rfl, hww⟩
    have HB1 : Hid (Below w.heap.size w w1) := by rw [hww]; exact HB0
    clear hww HB0 HFW
    go_wp2_with fail
    go_fit (HAW.out _ HB1.out)
    rintro e w2 ⟨rfl, hb2⟩
    have HB2 := Lib.hid (beln HB1.out hb2)
    clear hb2
    go_wp2
    go_ret
    exact ⟨rfl, HB2.out⟩
  rw [hfw] at HFW
  rcases Nat.lt_or_ge 20 cs.length with hlp | hlp
  · clear hfw h1 hc hG HI0 HR0
    obtain ⟨j0, j1, j2⟩ := i
    obtain ⟨rb, rn⟩ := r
    simp only [GR.val, GId.val] at *
    have d1 : decide ((20 : Int) < (cs.length : Int)) = true := by simp; omega
    clear hlp
    go_enter Tryz.func6, Tryz.ntmps6
    go_wp2_with fail
    go_fit (HFW.out _ HB0.out)
    rintro e w1 ⟨rfl, hww⟩
    have HB1 : Hid (Below w.heap.size w w1) := by rw [hww]; exact HB0
    clear hww HB0 HFW
    go_wp2_with fail
    go_fit (HAW.out _ HB1.out)
    rintro e w2 ⟨rfl, hb2⟩
    have HB2 := Lib.hid (beln HB1.out hb2)
    clear hb2
    go_wp2
    go_ret
    exact ⟨rfl, HB2.out⟩
  obtain ⟨hl, hp⟩ := fewE_of hfw
  have hpx : ∀ x ∈ xs, x.e.node.path.length ≤ 17179869184 := fun x hx => by have := hp x hx; omega
  obtain ⟨es, hes⟩ : ∃ es, xs.map GV.e = es := ⟨_, rfl⟩
  have hle : es.length ≤ 40 := by rw [← hes]; simpa using hl
  have hpy : ∀ ys : List GV, ys.map GV.e = es → ys.length ≤ 100000 := fun ys hy => by have h := congrArg List.length hy; rw [List.length_map] at h; omega
  have HCP := Lib.hid fun W (hW : Below w.heap.size w W) => rCpE_any xs A c W (h1.next hW) (by omega) hpx
  have HPN := Lib.hid fun ys (hy : ys.map GV.e = es) C e D f W (hr : GRow GV.cells 13 W W.heap.size C ys) (hq : GRow GC.cells 7 W W.heap.size D cs) => pConE_any ys C e i cs D f W hr hq (hpy ys hy) (by omega)
  have HPN : Hid (∀ ys (_ : ys.map GV.e = es) C e D f W (_ : GRow GV.cells 13 W W.heap.size C ys) (_ : GRow GC.cells 7 W W.heap.size D cs), Calls Tryz.prog 38 #[.slice C ys.length e, i.val, .slice D cs.length f] W fun e w' => e = .returned (.bool (conE es i cs)) ∧ Below W.heap.size W w') := Lib.hid fun ys hy C e D f W hr hq => by rw [← hy]; exact HPN.out ys hy C e D f W hr hq
  have HRN := Lib.hid fun W (hW : Below w.heap.size w W) => rConE_any xs A c i cs B d W (h1.row.next hW) (hc.next hW) (by omega) (by omega)
  have HPF := Lib.hid fun ys (hy : ys.map GV.e = es) C e W (hr : ERow W W.heap.size C ys) (hW : Below w.heap.size w W) => pFreE_any ys C e r W hr (hpy ys hy) (T10.next hG hW)
  have HPF : Hid (∀ ys (_ : ys.map GV.e = es) C e W (_ : ERow W W.heap.size C ys) (_ : Below w.heap.size w W), Calls Tryz.prog 41 #[.slice C ys.length e, r.val] W (FreeEnd (freeL r (rngE es)) W)) := Lib.hid fun ys hy C e W hr hW => by rw [← hy]; exact HPF.out ys hy C e W hr hW
  have HRF := Lib.hid fun W (hW : Below w.heap.size w W) => rFreE_any xs A c r W (h1.row.next hW) (by omega)
  rw [hes] at HCP HRN HRF
  have HLL := Lib.hid (freeL_len r (rngE es))
  have HCR := Lib.hid hc
  unfold EsEnd at HCP
  unfold FreeEnd at HPF HRF
  generalize conE es i cs = q at *
  generalize freeL r (rngE es) = fl at *
  have HSM := Lib.hid fun A B c d W h1 h2 => rSame_any fl fl A B c d W h1 h2 HLL.out HLL.out
  simp only [decide_true] at HSM
  have hfq : (q == q) = true := by simp
  clear hfw h1 hc hG hp hpx hpy hes hle hl HLL
  obtain ⟨j0, j1, j2⟩ := i
  obtain ⟨rb, rn⟩ := r
  simp only [GR.val, GId.val] at *
  have d1 : decide ((20 : Int) < (cs.length : Int)) = false := by simp; omega
  go_enter Tryz.func6, Tryz.ntmps6
  go_wp2_with fail
  go_fit (HFW.out _ HB0.out)
  rintro e w1 ⟨rfl, hww⟩
  have HBK : Hid (Below w.heap.size w w1) := by rw [hww]; exact HB0
  have HI1 : Hid (IB w1 w.heap.size ⟨j0, j1, j2⟩) := by rw [hww]; exact HI0
  have HR1 : Hid (RB w1 (w.heap.size + 1) ⟨rb, rn⟩) := by rw [hww]; exact HR0
  clear hww HB0 HFW HI0 HR0
  go_upto_region 3 with fail
  clear d1
  obtain ⟨y0, y1, y2⟩ := HI1.out.cells
  have hil := HI1.out.lt
  obtain ⟨r0, r1, _, _⟩ := HR1.out.facts
  have hrl := HR1.out.lt
  simp only at y0 y1 y2 r0 r1
  have hS : Below w1.heap.size w1 w1.drew := (Below.refl _ w1).drew
  refine wp_region_growS (S := fun W => Below w1.heap.size w1 W) [(0, true), (2, true), (3, true), (6, true), (7, true), (8, true), (1, false), (4, false), (5, false), (9, false), (10, true), (11, true), (12, true), (14, true), (16, true), (17, true), (13, false), (15, false), (18, false), (19, false), (20, true), (21, true), (22, false), (23, true), (24, true)] (by kernel_rfl) (by kernel_rfl) (by kernel_rfl) (by kernel_rfl) (by intro c a d v w h; cases d <;> exact h) hS ?_
  iterate 6
    (first
      | (refine wpGrowS_float (v := ?_) (by simp only [List.getElem?_toArray, List.getElem?_cons_succ, List.getElem?_cons_zero]; rfl) (by rfl) ?_ ?_
         rotate_left
         · (intro W hW; have t0 := (hW.cell (p := ⟨w.heap.size, 0, none⟩) hil).trans y0; have t1 := (hW.cell (p := ⟨w.heap.size, 1, none⟩) hil).trans y1; have t2 := (hW.cell (p := ⟨w.heap.size, 2, none⟩) hil).trans y2; have u0 := (hW.cell (p := ⟨w.heap.size + 1, 0, none⟩) hrl).trans r0; have u1 := (hW.cell (p := ⟨w.heap.size + 1, 1, none⟩) hrl).trans r1; (try simp only at *); go_simp; try with_reducible rfl)
         simp only [Act.put, List.setIfInBounds_toArray, List.set_cons_zero, List.set_cons_succ])
      | (refine wpGrowS_skip (by simp only [List.getElem?_toArray, List.getElem?_cons_succ, List.getElem?_cons_zero]; rfl) (by rfl) ?_
         simp only [Act.put, List.setIfInBounds_toArray, List.set_cons_zero, List.set_cons_succ]))
  refine wpGrowS_call (by simp only [List.getElem?_toArray, List.getElem?_cons_succ, List.getElem?_cons_zero]; rfl) (by rfl) fun K hK => ?_
  go_simp
  go_fit (HCP.out _ (beln HBK.out hS))
  rintro e wc1 ⟨vc1, ys1, rfl, hoc1, hmc1, hbc1⟩
  obtain ⟨Ac1, cc1, rfl, _, _, hrc1⟩ := hoc1.erow
  have hSa := beln hS hbc1
  obtain ⟨vA, wA, hrunA, hownA, hgA, _⟩ := OwnG.app elt_capZ GC.len GC.one (OwnG.nil wc1 wc1.heap.size) d (HCR.out.next (beln HBK.out hSa)) (Nat.le_refl _) (by unfold maxLen; simp; omega) (by simp; omega)
  simp only [List.nil_append] at hownA
  obtain ⟨AA, cA, rfl, _, _, hrA⟩ := hownA.row GC.len
  have hbA : Below wc1.heap.size wc1 wA := (Below.refl _ wc1).grown hgA (Nat.le_refl _) (fun g e => by cases e)
  have hSA := beln hSa hbA
  have hrc1 := hrc1.next hbA
  clear hownA hgA
  clear hoc1 hbc1
  go_simp
  refine hK _ _ hSa ?_
  clear hK K
  try simp only [Act.put, List.setIfInBounds_toArray, List.set_cons_zero, List.set_cons_succ]
  refine wpGrowS_call (by simp only [List.getElem?_toArray, List.getElem?_cons_succ, List.getElem?_cons_zero]; rfl) (by rfl) fun K hK => ?_
  refine oper_app10 (R := fun v W => v = (.slice AA cs.length cA) ∧ W = wA) ⟨(.slice AA cs.length cA), wA, hrunA, rfl, rfl⟩ rfl rfl rfl rfl ?_
  rintro v8 w8 ⟨rfl, rfl⟩
  refine hK _ _ hSA ?_
  clear hK K
  try simp only [Act.put, List.setIfInBounds_toArray, List.set_cons_zero, List.set_cons_succ]
  refine wpGrowS_call (by simp only [List.getElem?_toArray, List.getElem?_cons_succ, List.getElem?_cons_zero]; rfl) (by rfl) fun K hK => ?_
  go_simp
  go_fit (HPN.out _ hmc1 _ _ _ _ _ hrc1.row hrA)
  rintro e we1 ⟨rfl, hbe1⟩
  have hSb := beln hSA hbe1
  clear hbe1
  go_simp
  refine hK _ _ hSb ?_
  clear hK K
  try simp only [Act.put, List.setIfInBounds_toArray, List.set_cons_zero, List.set_cons_succ]
  refine wpGrowS_call (by simp only [List.getElem?_toArray, List.getElem?_cons_succ, List.getElem?_cons_zero]; rfl) (by rfl) fun K hK => ?_
  go_simp
  go_fit (HRN.out _ (beln HBK.out hSb))
  rintro e we2 ⟨rfl, hbe2⟩
  have hSc := beln hSb hbe2
  clear hbe2
  go_simp
  refine hK _ _ hSc ?_
  clear hK K
  try simp only [Act.put, List.setIfInBounds_toArray, List.set_cons_zero, List.set_cons_succ]
  iterate 6
    (first
      | (refine wpGrowS_float (v := ?_) (by simp only [List.getElem?_toArray, List.getElem?_cons_succ, List.getElem?_cons_zero]; rfl) (by rfl) ?_ ?_
         rotate_left
         · (intro W hW; have t0 := (hW.cell (p := ⟨w.heap.size, 0, none⟩) hil).trans y0; have t1 := (hW.cell (p := ⟨w.heap.size, 1, none⟩) hil).trans y1; have t2 := (hW.cell (p := ⟨w.heap.size, 2, none⟩) hil).trans y2; have u0 := (hW.cell (p := ⟨w.heap.size + 1, 0, none⟩) hrl).trans r0; have u1 := (hW.cell (p := ⟨w.heap.size + 1, 1, none⟩) hrl).trans r1; (try simp only at *); go_simp; try with_reducible rfl)
         simp only [Act.put, List.setIfInBounds_toArray, List.set_cons_zero, List.set_cons_succ])
      | (refine wpGrowS_skip (by simp only [List.getElem?_toArray, List.getElem?_cons_succ, List.getElem?_cons_zero]; rfl) (by rfl) ?_
         simp only [Act.put, List.setIfInBounds_toArray, List.set_cons_zero, List.set_cons_succ]))
  refine wpGrowS_call (by simp only [List.getElem?_toArray, List.getElem?_cons_succ, List.getElem?_cons_zero]; rfl) (by rfl) fun K hK => ?_
  go_simp
  go_fit (HCP.out _ (beln HBK.out hSc))
  rintro e wc2 ⟨vc2, ys2, rfl, hoc2, hmc2, hbc2⟩
  obtain ⟨Ac2, cc2, rfl, _, _, hrc2⟩ := hoc2.erow
  have hSd := beln hSc hbc2
  clear hoc2 hbc2
  go_simp
  refine hK _ _ hSd ?_
  clear hK K
  try simp only [Act.put, List.setIfInBounds_toArray, List.set_cons_zero, List.set_cons_succ]
  refine wpGrowS_call (by simp only [List.getElem?_toArray, List.getElem?_cons_succ, List.getElem?_cons_zero]; rfl) (by rfl) fun K hK => ?_
  go_simp
  go_fit (HPF.out _ hmc2 _ _ _ hrc2 (beln HBK.out hSd))
  rintro e wf1 ⟨vf1, rfl, hof1, hbf1⟩
  obtain ⟨Af1, cf1, rfl, _, _, hrf1⟩ := hof1.row GR.len
  have hSe := beln hSd hbf1
  clear hof1 hbf1
  go_simp
  refine hK _ _ hSe ?_
  clear hK K
  try simp only [Act.put, List.setIfInBounds_toArray, List.set_cons_zero, List.set_cons_succ]
  refine wpGrowS_call (by simp only [List.getElem?_toArray, List.getElem?_cons_succ, List.getElem?_cons_zero]; rfl) (by rfl) fun K hK => ?_
  go_simp
  go_fit (HRF.out _ (beln HBK.out hSe))
  rintro e wf2 ⟨vf2, rfl, hof2, hbf2⟩
  obtain ⟨Af2, cf2, rfl, _, _, hrf2⟩ := hof2.row GR.len
  have hSf := beln hSe hbf2
  have hrf1 := hrf1.next hbf2
  clear hof2 hbf2
  go_simp
  refine hK _ _ hSf ?_
  clear hK K
  try simp only [Act.put, List.setIfInBounds_toArray, List.set_cons_zero, List.set_cons_succ]
  refine wpGrowS_call (by simp only [List.getElem?_toArray, List.getElem?_cons_succ, List.getElem?_cons_zero]; rfl) (by rfl) fun K hK => ?_
  go_simp
  go_fit (HSM.out _ _ _ _ _ hrf1 hrf2)
  rintro e we3 ⟨rfl, hbe3⟩
  have hSg := beln hSf hbe3
  clear hbe3
  go_simp
  refine hK _ _ hSg ?_
  clear hK K
  try simp only [Act.put, List.setIfInBounds_toArray, List.set_cons_zero, List.set_cons_succ]
  iterate 2
    (first
      | (refine wpGrowS_float (v := ?_) (by simp only [List.getElem?_toArray, List.getElem?_cons_succ, List.getElem?_cons_zero]; rfl) (by rfl) ?_ ?_
         rotate_left
         · (intro W hW; have t0 := (hW.cell (p := ⟨w.heap.size, 0, none⟩) hil).trans y0; have t1 := (hW.cell (p := ⟨w.heap.size, 1, none⟩) hil).trans y1; have t2 := (hW.cell (p := ⟨w.heap.size, 2, none⟩) hil).trans y2; have u0 := (hW.cell (p := ⟨w.heap.size + 1, 0, none⟩) hrl).trans r0; have u1 := (hW.cell (p := ⟨w.heap.size + 1, 1, none⟩) hrl).trans r1; (try simp only at *); go_simp; try with_reducible rfl)
         simp only [Act.put, List.setIfInBounds_toArray, List.set_cons_zero, List.set_cons_succ])
      | (refine wpGrowS_skip (by simp only [List.getElem?_toArray, List.getElem?_cons_succ, List.getElem?_cons_zero]; rfl) (by rfl) ?_
         simp only [Act.put, List.setIfInBounds_toArray, List.set_cons_zero, List.set_cons_succ]))
  refine wpGrowS_call (by simp only [List.getElem?_toArray, List.getElem?_cons_succ, List.getElem?_cons_zero]; rfl) (by rfl) fun K hK => ?_
  go_simp
  go_fit (HAW.out _ (beln HBK.out hSg))
  rintro e we4 ⟨rfl, hbe4⟩
  have hSh := beln hSg hbe4
  clear hbe4
  go_simp
  refine hK _ _ hSh ?_
  clear hK K
  try simp only [Act.put, List.setIfInBounds_toArray, List.set_cons_zero, List.set_cons_succ]
  iterate 2
    (first
      | (refine wpGrowS_float (v := ?_) (by simp only [List.getElem?_toArray, List.getElem?_cons_succ, List.getElem?_cons_zero]; rfl) (by rfl) ?_ ?_
         rotate_left
         · (intro W hW; have t0 := (hW.cell (p := ⟨w.heap.size, 0, none⟩) hil).trans y0; have t1 := (hW.cell (p := ⟨w.heap.size, 1, none⟩) hil).trans y1; have t2 := (hW.cell (p := ⟨w.heap.size, 2, none⟩) hil).trans y2; have u0 := (hW.cell (p := ⟨w.heap.size + 1, 0, none⟩) hrl).trans r0; have u1 := (hW.cell (p := ⟨w.heap.size + 1, 1, none⟩) hrl).trans r1; (try simp only at *); go_simp; try with_reducible rfl)
         simp only [Act.put, List.setIfInBounds_toArray, List.set_cons_zero, List.set_cons_succ])
      | (refine wpGrowS_skip (by simp only [List.getElem?_toArray, List.getElem?_cons_succ, List.getElem?_cons_zero]; rfl) (by rfl) ?_
         simp only [Act.put, List.setIfInBounds_toArray, List.set_cons_zero, List.set_cons_succ]))
  refine wpGrowS_nil ?_
  have HBF := Lib.hid (beln HBK.out hSh)
  clear hS hSa hSA hSb hSc hSd hSe hSf hSg hSh y0 y1 y2 r0 r1 hil hrl
  go_wp2
  go_ret
  exact ⟨rfl, HBF.out⟩
end Go.Proofs.YtndppbfdcceflaaGreatDoor


namespace Go.Proofs.YtndppbfdcceflaaGreatDoor
open Go.ChangeShapes Go.WideShapes Go.RowKit

def IdRow (w : World) (B : Nat) (A : Option Addr) (len cap : Nat) (l : List GId) : Prop := l.length = len ∧ len ≤ cap ∧ GRow GId.cells 3 w B A l
section
variable {H : Type} {enc : TypeId × Value → H} {W : World} {base : Nat} {held : Bool}
set_option maxRecDepth 50000 in
theorem id_open {n : Nat} {cs : List Value} {x : DataW H × List MemPlace} (h : DataW.trod enc Tryz.prog W base (fun _ => true) held n 25 cs = some x) : ∃ r : GId, cs = r.cells := by
  obtain ⟨ys, m, _, hxy, hlen, hyl, hf⟩ := DataW.trod_struct Tryz.underlying25 h
  have c0 : Tryz.prog.cellsOf 25 = 3 := by kernel_rfl
  rw [c0] at hlen
  match cs, hlen with
  | [v0, v1, v2], _ =>
    have n1 : Tryz.prog.cellsOf 3 = 1 := by kernel_rfl
    have h0 := hf 0 _ rfl
    have h1 := hf 1 _ rfl
    have h2 := hf 2 _ rfl
    have yl : ys.length = 3 := hyl
    match ys, yl with
    | [y0, y1, y2], _ =>
      simp [n1] at h0
      simp [n1] at h1
      simp [n1] at h2
      obtain ⟨a0, e0, _, _⟩ := DataW.trod_int Tryz.underlying3 h0
      obtain ⟨a1, e1, _, _⟩ := DataW.trod_int Tryz.underlying3 h1
      obtain ⟨a2, e2, _, _⟩ := DataW.trod_int Tryz.underlying3 h2
      simp at e0 e1 e2
      subst e0 e1 e2
      exact ⟨⟨a0, a1, a2⟩, rfl⟩
set_option maxRecDepth 50000 in
theorem IsId_open {v : Value} {d : DataW H} {p : List MemPlace} {r : Reach} {b : Nat} (hv : Value.okWide Tryz.prog W r b 25 v) (h : DataW.Trod enc Tryz.prog W base (fun _ => true) held 25 v d p) : ∃ x : GId, v = x.val := by
  obtain ⟨cs, rfl, _⟩ := okWide_struct Tryz.underlying25 hv
  obtain ⟨fuel, hf⟩ := h
  obtain ⟨x, hcs⟩ := id_open hf
  refine ⟨x, ?_⟩
  have h2 : cs.toList = x.cells := hcs
  obtain ⟨cl⟩ := cs
  simp at h2
  rw [h2]; rfl
set_option maxRecDepth 50000 in
theorem cap_open {n : Nat} {cs : List Value} {x : DataW H × List MemPlace} (h : DataW.trod enc Tryz.prog W base (fun _ => true) held n 28 cs = some x) : ∃ c : GC, cs = c.cells := by
  obtain ⟨ys, m, _, hxy, hlen, hyl, hf⟩ := DataW.trod_struct Tryz.underlying28 h
  have c0 : Tryz.prog.cellsOf 28 = 7 := by kernel_rfl
  rw [c0] at hlen
  match cs, hlen with
  | [v0, v1, v2, v3, v4, v5, v6], _ =>
    have n1 : Tryz.prog.cellsOf 3 = 1 := by kernel_rfl
    have n2 : Tryz.prog.cellsOf 4 = 1 := by kernel_rfl
    have h0 := hf 0 _ rfl
    have h1 := hf 1 _ rfl
    have h2 := hf 2 _ rfl
    have h3 := hf 3 _ rfl
    have h4 := hf 4 _ rfl
    have h5 := hf 5 _ rfl
    have h6 := hf 6 _ rfl
    have yl : ys.length = 7 := hyl
    match ys, yl with
    | [y0, y1, y2, y3, y4, y5, y6], _ =>
      simp [n1] at h0
      simp [n1] at h1
      simp [n1] at h2
      simp [n1] at h3
      simp [n1] at h4
      simp [n1] at h5
      simp [n2] at h6
      obtain ⟨a0, e0, _, _⟩ := DataW.trod_int Tryz.underlying3 h0
      obtain ⟨a1, e1, _, _⟩ := DataW.trod_int Tryz.underlying3 h1
      obtain ⟨a2, e2, _, _⟩ := DataW.trod_int Tryz.underlying3 h2
      obtain ⟨a3, e3, _, _⟩ := DataW.trod_int Tryz.underlying3 h3
      obtain ⟨a4, e4, _, _⟩ := DataW.trod_int Tryz.underlying3 h4
      obtain ⟨a5, e5, _, _⟩ := DataW.trod_int Tryz.underlying3 h5
      obtain ⟨a6, e6, _⟩ := DataW.trod_bool Tryz.underlying4 h6
      simp at e0 e1 e2 e3 e4 e5 e6
      subst e0 e1 e2 e3 e4 e5 e6
      exact ⟨⟨a0, a1, a2, a3, a4, a5, a6⟩, rfl⟩
set_option maxRecDepth 50000 in
theorem IsCap_open {v : Value} {d : DataW H} {p : List MemPlace} {r : Reach} {b : Nat} (hv : Value.okWide Tryz.prog W r b 28 v) (h : DataW.Trod enc Tryz.prog W base (fun _ => true) held 28 v d p) : ∃ x : GC, v = x.val := by
  obtain ⟨cs, rfl, _⟩ := okWide_struct Tryz.underlying28 hv
  obtain ⟨fuel, hf⟩ := h
  obtain ⟨x, hcs⟩ := cap_open hf
  refine ⟨x, ?_⟩
  have h2 : cs.toList = x.cells := hcs
  obtain ⟨cl⟩ := cs
  simp at h2
  rw [h2]; rfl
set_option maxRecDepth 50000 in
theorem ids_open {fuel : Nat} {cs : List Value} {x : DataW H × List MemPlace} (hf : DataW.trod enc Tryz.prog W base (fun _ => true) held fuel 26 cs = some x) : ∃ a len cap l, cs = [.slice a len cap] ∧ IdRow W W.heap.size a len cap l := by
  rcases Go.Deep.open_slice Tryz.underlying26 hf with ⟨hcs, _⟩ | ⟨x, len, cap, m, n, D, Pl, hcs, _, hl, hm, hmm, hxd, hx⟩
  · exact ⟨none, 0, 0, [], by simpa [Value.cells] using hcs, rfl, Nat.le_refl _, GRow.nil⟩
  · refine ⟨some x, len, cap, ?_⟩
    have c0 : Tryz.prog.cellsOf 25 = 3 := by kernel_rfl
    rw [c0] at hx
    have hlm : len ≤ m := by rw [hmm]; split <;> omega
    have each : ∀ i, i < len → ∃ t : GId, ∀ j, j < 3 → W.cell? ((x.add (i * 3)).add j) = t.cells[j]? := fun i hi => by
      obtain ⟨cs', hc, ht⟩ := hx i (by omega)
      obtain ⟨s, rfl⟩ := id_open ht
      obtain ⟨_, _, hat⟩ := World.cells?_some hc
      exact ⟨s, fun j hj => hat j hj⟩
    haveI : Inhabited GId := ⟨⟨0, 0, 0⟩⟩
    obtain ⟨g, hgx⟩ := Go.Deep.choose_lt each
    refine ⟨(List.range len).map g, by simpa [Value.cells] using hcs, by simp, hl, fun h0 => ?_⟩
    simp at h0
    obtain ⟨b, off, spot⟩ := x
    have hc0 := hgx 0 h0 0 (by omega)
    have hspot : spot = none := by simpa [Addr.add] using World.cell?_spot (hc0.trans rfl)
    subst hspot
    have hlt := World.block_lt_of_cell? W _ (hc0.trans rfl)
    refine ⟨b, off, rfl, by simpa [Addr.add] using hlt, fun i hi j u hu => ?_⟩
    simp at hi
    have hj : j < 3 := by
      rcases Nat.lt_or_ge j 3 with h1 | h1
      · exact h1
      · rw [List.getElem?_eq_none (by simp [GId.cells]; omega)] at hu; cases hu
    have e : ((⟨b, off, none⟩ : Addr).add (i * 3)).add j = ⟨b, off + (i * 3 + j), none⟩ := by rw [Go.WideShapes.add_plain, Go.WideShapes.add_plain, Nat.add_assoc]
    have := hgx i hi j hj
    rw [e] at this
    simp at hu
    rw [this, hu]
set_option maxRecDepth 50000 in
theorem node_open {n : Nat} {cs : List Value} {x : DataW H × List MemPlace} (h : DataW.trod enc Tryz.prog W base (fun _ => true) held n 30 cs = some x) : ∃ (r : GN) (A : Option Addr) (c : Nat), Value.agg cs.toArray = r.val A c ∧ r.path.length ≤ c ∧ PRow W W.heap.size A r.path := by
  obtain ⟨ys, m, _, hxy, hlen, hyl, hf⟩ := DataW.trod_struct Tryz.underlying30 h
  have c0 : Tryz.prog.cellsOf 30 = 11 := by kernel_rfl
  rw [c0] at hlen
  match cs, hlen with
  | [v0, v1, v2, v3, v4, v5, v6, v7, v8, v9, v10], _ =>
    have n1 : Tryz.prog.cellsOf 25 = 3 := by kernel_rfl
    have n2 : Tryz.prog.cellsOf 26 = 1 := by kernel_rfl
    have n3 : Tryz.prog.cellsOf 28 = 7 := by kernel_rfl
    have h0 := hf 0 _ rfl
    have h1 := hf 1 _ rfl
    have h2 := hf 2 _ rfl
    have yl : ys.length = 3 := hyl
    match ys, yl with
    | [y0, y1, y2], _ =>
      simp [n1] at h0
      simp [n2] at h1
      simp [n3] at h2
      obtain ⟨i, hi⟩ := id_open h0
      obtain ⟨a, ha⟩ := cap_open h2
      obtain ⟨A, len, cp, l, hs, h3, h4, h5⟩ := ids_open h1
      obtain ⟨i0, i1, i2⟩ := i
      obtain ⟨a0, a1, a2, a3, a4, a5, a6⟩ := a
      simp only [GId.cells, GC.cells, List.cons.injEq, and_true] at hi ha hs
      obtain ⟨rfl, rfl, rfl⟩ := hi
      obtain ⟨rfl, rfl, rfl, rfl, rfl, rfl, rfl⟩ := ha
      subst hs h3
      exact ⟨⟨⟨i0, i1, i2⟩, l, ⟨a0, a1, a2, a3, a4, a5, a6⟩⟩, A, cp, rfl, h4, h5⟩
set_option maxRecDepth 50000 in
theorem IsNode_open {v : Value} {d : DataW H} {p : List MemPlace} {r : Reach} {b : Nat} (hv : Value.okWide Tryz.prog W r b 30 v) (h : DataW.Trod enc Tryz.prog W base (fun _ => true) held 30 v d p) : ∃ (x : GN) (A : Option Addr) (c : Nat), v = x.val A c ∧ x.path.length ≤ c ∧ PRow W W.heap.size A x.path := by
  obtain ⟨cs, rfl, _⟩ := okWide_struct Tryz.underlying30 hv
  obtain ⟨fuel, hf⟩ := h
  obtain ⟨x, A, c, hcs, h2, h3⟩ := node_open hf
  exact ⟨x, A, c, by rw [← hcs]; simp [Value.cells], h2, h3⟩
theorem IsIds_open {a : Option Addr} {len cap : Nat} {d : DataW H} {p : List MemPlace} (h : DataW.Trod enc Tryz.prog W base (fun _ => true) held 26 (.slice a len cap) d p) : ∃ l, IdRow W W.heap.size a len cap l := by
  obtain ⟨fuel, hf⟩ := h
  obtain ⟨a', len', cap', l, e, h⟩ := ids_open hf
  simp [Value.cells] at e
  obtain ⟨rfl, rfl, rfl⟩ := e
  exact ⟨l, h⟩
set_option maxRecDepth 50000 in
theorem ent_open {n : Nat} {cs : List Value} {x : DataW H × List MemPlace} (h : DataW.trod enc Tryz.prog W base (fun _ => true) held n 32 cs = some x) : ∃ r : GV, cs = r.cells ∧ r.e.node.path.length ≤ r.c ∧ PRow W W.heap.size r.A r.e.node.path := by
  obtain ⟨ys, m, _, hxy, hlen, hyl, hf⟩ := DataW.trod_struct Tryz.underlying32 h
  have c0 : Tryz.prog.cellsOf 32 = 13 := by kernel_rfl
  rw [c0] at hlen
  match cs, hlen with
  | [v0, v1, v2, v3, v4, v5, v6, v7, v8, v9, v10, v11, v12], _ =>
    have n1 : Tryz.prog.cellsOf 3 = 1 := by kernel_rfl
    have n3 : Tryz.prog.cellsOf 30 = 11 := by kernel_rfl
    have h0 := hf 0 _ rfl
    have h1 := hf 1 _ rfl
    have h2 := hf 2 _ rfl
    have yl : ys.length = 3 := hyl
    match ys, yl with
    | [y0, y1, y2], _ =>
      simp [n1] at h0
      simp [n1] at h1
      simp [n3] at h2
      obtain ⟨a0, e0, _, _⟩ := DataW.trod_int Tryz.underlying3 h0
      obtain ⟨a1, e1, _, _⟩ := DataW.trod_int Tryz.underlying3 h1
      obtain ⟨r, A, cp, hr, h4, h5⟩ := node_open h2
      simp at e0 e1
      subst e0 e1
      obtain ⟨⟨i0, i1, i2⟩, l, ⟨b0, b1, b2, b3, b4, b5, b6⟩⟩ := r
      simp only [GN.val, Value.agg.injEq, Array.mk.injEq, List.cons.injEq, and_true] at hr
      obtain ⟨rfl, rfl, rfl, rfl, rfl, rfl, rfl, rfl, rfl, rfl, rfl⟩ := hr
      exact ⟨⟨⟨a0, a1, ⟨⟨i0, i1, i2⟩, l, ⟨b0, b1, b2, b3, b4, b5, b6⟩⟩⟩, A, cp⟩, rfl, h4, h5⟩
def ERowA (w : World) (B : Nat) (A : Option Addr) (len cap : Nat) (l : List GV) : Prop := l.length = len ∧ len ≤ cap ∧ ERow w B A l
set_option maxRecDepth 50000 in
theorem IsEntry_open {v : Value} {d : DataW H} {p : List MemPlace} {r : Reach} {b : Nat} (hv : Value.okWide Tryz.prog W r b 32 v) (h : DataW.Trod enc Tryz.prog W base (fun _ => true) held 32 v d p) : ∃ x : GV, v = x.val ∧ PW W W.heap.size x := by
  obtain ⟨cs, rfl, _⟩ := okWide_struct Tryz.underlying32 hv
  obtain ⟨fuel, hf⟩ := h
  obtain ⟨x, hcs, h2, h3⟩ := ent_open hf
  refine ⟨x, ?_, h3, h2⟩
  have h4 : cs.toList = x.cells := hcs
  obtain ⟨cl⟩ := cs
  simp at h4
  rw [h4]; rfl
set_option maxRecDepth 50000 in
theorem IsEntries_open {a : Option Addr} {len cap : Nat} {d : DataW H} {p : List MemPlace} (h : DataW.Trod enc Tryz.prog W base (fun _ => true) held 22 (.slice a len cap) d p) : ∃ l, ERowA W W.heap.size a len cap l := by
  obtain ⟨fuel, hf⟩ := h
  rcases Go.Deep.open_slice Tryz.underlying22 hf with ⟨hcs, _⟩ | ⟨x, l, c, m, n, D, Pl, hcs, _, hl, hm, hmm, hxd, hx⟩
  · simp [Value.cells] at hcs
    obtain ⟨rfl, rfl, rfl⟩ := hcs
    exact ⟨[], rfl, Nat.le_refl _, ERow.nil⟩
  · simp [Value.cells] at hcs
    obtain ⟨rfl, rfl, rfl⟩ := hcs
    have c0 : Tryz.prog.cellsOf 32 = 13 := by kernel_rfl
    rw [c0] at hx
    have hlm : len ≤ m := by rw [hmm]; split <;> omega
    have each : ∀ i, i < len → ∃ t : GV, (∀ j, j < 13 → W.cell? ((x.add (i * 13)).add j) = t.cells[j]?) ∧ t.e.node.path.length ≤ t.c ∧ PRow W W.heap.size t.A t.e.node.path := fun i hi => by
      obtain ⟨cs', hc, ht⟩ := hx i (by omega)
      obtain ⟨s, rfl, h2, h3⟩ := ent_open ht
      obtain ⟨_, _, hat⟩ := World.cells?_some hc
      exact ⟨s, fun j hj => hat j hj, h2, h3⟩
    haveI : Inhabited GV := ⟨⟨⟨0, 0, ⟨⟨0, 0, 0⟩, [], ⟨0, 0, 0, 0, 0, 0, false⟩⟩⟩, none, 0⟩⟩
    obtain ⟨g, hgx⟩ := Go.Deep.choose_lt each
    refine ⟨(List.range len).map g, by simp, hl, fun h0 => ?_, fun y hy => ?_⟩
    · simp at h0
      obtain ⟨b, off, spot⟩ := x
      have hc0 := (hgx 0 h0).1 0 (by omega)
      have hspot : spot = none := by simpa [Addr.add] using World.cell?_spot (hc0.trans rfl)
      subst hspot
      have hlt := World.block_lt_of_cell? W _ (hc0.trans rfl)
      refine ⟨b, off, rfl, by simpa [Addr.add] using hlt, fun i hi j u hu => ?_⟩
      simp at hi
      have hj : j < 13 := by
        rcases Nat.lt_or_ge j 13 with h1 | h1
        · exact h1
        · rw [List.getElem?_eq_none (by simp [GV.cells]; omega)] at hu; cases hu
      have e : ((⟨b, off, none⟩ : Addr).add (i * 13)).add j = ⟨b, off + (i * 13 + j), none⟩ := by rw [Go.WideShapes.add_plain, Go.WideShapes.add_plain, Nat.add_assoc]
      have := (hgx i hi).1 j hj
      rw [e] at this
      simp at hu
      rw [this, hu]
    · obtain ⟨i, hi, rfl⟩ := List.mem_map.1 hy
      have h2 := (hgx i (by simpa using hi)).2
      exact ⟨h2.2, h2.1⟩
end
end Go.Proofs.YtndppbfdcceflaaGreatDoor


namespace Go.Proofs.YtndppbfdcceflaaGreatDoor
open Go.ChangeShapes Go.WideShapes Go.RowKit

def CRowA (w : World) (B : Nat) (A : Option Addr) (len cap : Nat) (l : List GC) : Prop := l.length = len ∧ len ≤ cap ∧ GRow GC.cells 7 w B A l
section
variable {H : Type} {enc : TypeId × Value → H} {W : World} {base : Nat} {held : Bool}
set_option maxRecDepth 50000 in
theorem rng_open {n : Nat} {cs : List Value} {x : DataW H × List MemPlace} (h : DataW.trod enc Tryz.prog W base (fun _ => true) held n 58 cs = some x) : ∃ r : GR, cs = r.cells := by
  obtain ⟨ys, m, _, hxy, hlen, hyl, hf⟩ := DataW.trod_struct Tryz.underlying58 h
  have c0 : Tryz.prog.cellsOf 58 = 2 := by kernel_rfl
  rw [c0] at hlen
  match cs, hlen with
  | [v0, v1], _ =>
    have n1 : Tryz.prog.cellsOf 3 = 1 := by kernel_rfl
    have h0 := hf 0 _ rfl
    have h1 := hf 1 _ rfl
    have yl : ys.length = 2 := hyl
    match ys, yl with
    | [y0, y1], _ =>
      simp [n1] at h0
      simp [n1] at h1
      obtain ⟨a, ha, _, _⟩ := DataW.trod_int Tryz.underlying3 h0
      obtain ⟨b, hb, _, _⟩ := DataW.trod_int Tryz.underlying3 h1
      simp at ha hb
      subst ha hb
      exact ⟨⟨a, b⟩, rfl⟩
set_option maxRecDepth 50000 in
theorem IsRange_open {v : Value} {d : DataW H} {p : List MemPlace} {r : Reach} {b : Nat} (hv : Value.okWide Tryz.prog W r b 58 v) (h : DataW.Trod enc Tryz.prog W base (fun _ => true) held 58 v d p) : ∃ x : GR, v = x.val := by
  obtain ⟨cs, rfl, _⟩ := okWide_struct Tryz.underlying58 hv
  obtain ⟨fuel, hf⟩ := h
  obtain ⟨x, hcs⟩ := rng_open hf
  refine ⟨x, ?_⟩
  have h2 : cs.toList = x.cells := hcs
  obtain ⟨cl⟩ := cs
  simp at h2
  rw [h2]; rfl
set_option maxRecDepth 50000 in
theorem IsCaps_open {a : Option Addr} {len cap : Nat} {d : DataW H} {p : List MemPlace} (h : DataW.Trod enc Tryz.prog W base (fun _ => true) held 56 (.slice a len cap) d p) : ∃ l, CRowA W W.heap.size a len cap l := by
  obtain ⟨fuel, hf⟩ := h
  rcases Go.Deep.open_slice Tryz.underlying56 hf with ⟨hcs, _⟩ | ⟨x, l, c, m, n, D, Pl, hcs, _, hl, hm, hmm, hxd, hx⟩
  · simp [Value.cells] at hcs
    obtain ⟨rfl, rfl, rfl⟩ := hcs
    exact ⟨[], rfl, Nat.le_refl _, GRow.nil⟩
  · simp [Value.cells] at hcs
    obtain ⟨rfl, rfl, rfl⟩ := hcs
    have c0 : Tryz.prog.cellsOf 28 = 7 := by kernel_rfl
    rw [c0] at hx
    have hlm : len ≤ m := by rw [hmm]; split <;> omega
    have each : ∀ i, i < len → ∃ t : GC, ∀ j, j < 7 → W.cell? ((x.add (i * 7)).add j) = t.cells[j]? := fun i hi => by
      obtain ⟨cs', hc, ht⟩ := hx i (by omega)
      obtain ⟨s, rfl⟩ := cap_open ht
      obtain ⟨_, _, hat⟩ := World.cells?_some hc
      exact ⟨s, fun j hj => hat j hj⟩
    obtain ⟨g, hgx⟩ := Go.Deep.choose_lt each
    refine ⟨(List.range len).map g, by simp, hl, fun h0 => ?_⟩
    simp at h0
    obtain ⟨b, off, spot⟩ := x
    have hc0 := hgx 0 h0 0 (by omega)
    have hspot : spot = none := by simpa [Addr.add] using World.cell?_spot (hc0.trans rfl)
    subst hspot
    have hlt := World.block_lt_of_cell? W _ (hc0.trans rfl)
    refine ⟨b, off, rfl, by simpa [Addr.add] using hlt, fun i hi j u hu => ?_⟩
    simp at hi
    have hj : j < 7 := by
      rcases Nat.lt_or_ge j 7 with h1 | h1
      · exact h1
      · rw [List.getElem?_eq_none (by simp [GC.cells]; omega)] at hu; cases hu
    have e : ((⟨b, off, none⟩ : Addr).add (i * 7)).add j = ⟨b, off + (i * 7 + j), none⟩ := by rw [Go.WideShapes.add_plain, Go.WideShapes.add_plain, Nat.add_assoc]
    have := hgx i hi j hj
    rw [e] at this
    simp at hu
    rw [this, hu]
end
end Go.Proofs.YtndppbfdcceflaaGreatDoor
