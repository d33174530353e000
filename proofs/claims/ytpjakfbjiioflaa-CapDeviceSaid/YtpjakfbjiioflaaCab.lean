/-
  The reference's Coexist.
  Conditions: none.
-/
import Derived.Test.YtpjakfbjiioflaaCaa
import Derived.Test.YtpjakfbjiioflaaGrs
namespace Go.Proofs.Ytpjakfbjiioflaa

open Go.RowKit

theorem CS2.drew {w W : World} {N M : Nat} {a b : GC} (h : Below w.heap.size w W ∧ CB W N a ∧ CB W M b) : Below w.heap.size w W.drew ∧ CB W.drew N a ∧ CB W.drew M b :=
  ⟨h.1.drew, h.2.1.next (Below.refl _ _).drew, h.2.2.next (Below.refl _ _).drew⟩
theorem CS2.mk (w : World) (a b : GC) : Below w.heap.size w ((w.alloc (.cells a.cells.toArray 23)).alloc (.cells b.cells.toArray 23)) ∧ CB ((w.alloc (.cells a.cells.toArray 23)).alloc (.cells b.cells.toArray 23)) w.heap.size a ∧ CB ((w.alloc (.cells a.cells.toArray 23)).alloc (.cells b.cells.toArray 23)) (w.heap.size + 1) b := by
  have e : (w.alloc (.cells a.cells.toArray 23)).heap.size = w.heap.size + 1 := by simp
  have h2 := CB.new (w.alloc (.cells a.cells.toArray 23)) b
  rw [e] at h2
  exact ⟨belt (belt (Below.refl _ w) _) _, (CB.new w a).next (belt (Below.refl _ _) _), h2⟩
set_option maxRecDepth 20000 in
set_option maxHeartbeats 4000000 in
theorem rCoe_any (a b : GC) (w : World) : Calls Try.prog 19 #[a.val, b.val] w fun e w' => e = .returned (.bool (coexB a b)) ∧ Below w.heap.size w w' := by
  have HGA := Lib.hid fun W => rRng_any a W
  have HGB := Lib.hid fun W => rRng_any b W
  have HOV := Lib.hid fun W => rOv_any a.rng b.rng W
  have HSM := Lib.hid fun W => rSam_any a b W
  have HC1 := Lib.hid fun W => rCon_any a.rng b.rng W
  have HC2 := Lib.hid fun W => rCon_any b.rng a.rng W
  have HR : Hid (coexB a b = (!ovR a.rng b.rng || sameO a b || (decide (a.kind = 1) && conR a.rng b.rng) || (decide (b.kind = 1) && conR b.rng a.rng))) := Lib.hid rfl
  have HS0 := Lib.hid (CS2.drew (CS2.mk w a b))
  generalize coexB a b = q at *
  generalize ovR a.rng b.rng = o at *
  generalize sameO a b = s at *
  generalize conR a.rng b.rng = c1 at *
  generalize conR b.rng a.rng = c2 at *
  generalize a.rng = ga at *
  generalize b.rng = gb at *
  obtain ⟨gab, gan⟩ := ga
  obtain ⟨gbb, gbn⟩ := gb
  obtain ⟨ak, ab, an, ar, aw, al, ad⟩ := a
  obtain ⟨bk, bb, bn, br, bw, bl, bd⟩ := b
  simp only [GC.val, GR.val, GC.cells] at *
  rcases o with _ | _
  · go_enter Try.func19, Try.ntmps19
    go_upto_region 1 with fail
    have hS := HS0.out
    refine wp_region_growS (S := fun W => Below w.heap.size w W ∧ CB W w.heap.size ⟨ak, ab, an, ar, aw, al, ad⟩ ∧ CB W (w.heap.size + 1) ⟨bk, bb, bn, br, bw, bl, bd⟩) [(0, true), (2, true), (1, false), (3, false), (4, false), (5, true), (6, true), (7, true), (8, true), (9, false), (10, true), (11, true)] (by kernel_rfl) (by kernel_rfl) (by kernel_rfl) (by kernel_rfl) (by intro c a d v w h; cases d <;> exact h) hS ?_
    iterate 2
      (first
        | (refine wpGrowS_float (v := ?_) (by simp only [List.getElem?_toArray, List.getElem?_cons_succ, List.getElem?_cons_zero]; rfl) (by rfl) ?_ ?_
           rotate_left
           · (intro W hW; obtain ⟨p0, p1, p2, p3, p4, p5, p6⟩ := CB.cells (hW.2.1); obtain ⟨q0, q1, q2, q3, q4, q5, q6⟩ := CB.cells (hW.2.2); (try simp only at *); go_simp; try with_reducible rfl)
           simp only [Act.put, List.setIfInBounds_toArray, List.set_cons_zero, List.set_cons_succ])
        | (refine wpGrowS_skip (by simp only [List.getElem?_toArray, List.getElem?_cons_succ, List.getElem?_cons_zero]; rfl) (by rfl) ?_
           simp only [Act.put, List.setIfInBounds_toArray, List.set_cons_zero, List.set_cons_succ]))
    refine wpGrowS_call (by simp only [List.getElem?_toArray, List.getElem?_cons_succ, List.getElem?_cons_zero]; rfl) (by rfl) fun K hK => ?_
    go_simp
    go_fit (HGA.out _)
    rintro e wn ⟨rfl, hbn⟩
    have hSp := hS
    have hS : Below w.heap.size w wn ∧ CB wn w.heap.size ⟨ak, ab, an, ar, aw, al, ad⟩ ∧ CB wn (w.heap.size + 1) ⟨bk, bb, bn, br, bw, bl, bd⟩ := ⟨beln (hS.1) hbn, CB.next (hS.2.1) hbn, CB.next (hS.2.2) hbn⟩
    go_simp
    refine hK _ _ hS ?_
    clear hK K
    try simp only [Act.put, List.setIfInBounds_toArray, List.set_cons_zero, List.set_cons_succ]
    refine wpGrowS_call (by simp only [List.getElem?_toArray, List.getElem?_cons_succ, List.getElem?_cons_zero]; rfl) (by rfl) fun K hK => ?_
    go_simp
    go_fit (HGB.out _)
    rintro e wn ⟨rfl, hbn⟩
    have hSp := hS
    have hS : Below w.heap.size w wn ∧ CB wn w.heap.size ⟨ak, ab, an, ar, aw, al, ad⟩ ∧ CB wn (w.heap.size + 1) ⟨bk, bb, bn, br, bw, bl, bd⟩ := ⟨beln (hS.1) hbn, CB.next (hS.2.1) hbn, CB.next (hS.2.2) hbn⟩
    go_simp
    refine hK _ _ hS ?_
    clear hK K
    try simp only [Act.put, List.setIfInBounds_toArray, List.set_cons_zero, List.set_cons_succ]
    refine wpGrowS_call (by simp only [List.getElem?_toArray, List.getElem?_cons_succ, List.getElem?_cons_zero]; rfl) (by rfl) fun K hK => ?_
    go_simp
    go_fit (HOV.out _)
    rintro e wn ⟨rfl, hbn⟩
    have hSp := hS
    have hS : Below w.heap.size w wn ∧ CB wn w.heap.size ⟨ak, ab, an, ar, aw, al, ad⟩ ∧ CB wn (w.heap.size + 1) ⟨bk, bb, bn, br, bw, bl, bd⟩ := ⟨beln (hS.1) hbn, CB.next (hS.2.1) hbn, CB.next (hS.2.2) hbn⟩
    go_simp
    refine hK _ _ hS ?_
    clear hK K
    try simp only [Act.put, List.setIfInBounds_toArray, List.set_cons_zero, List.set_cons_succ]
    iterate 4
      (first
        | (refine wpGrowS_float (v := ?_) (by simp only [List.getElem?_toArray, List.getElem?_cons_succ, List.getElem?_cons_zero]; rfl) (by rfl) ?_ ?_
           rotate_left
           · (intro W hW; obtain ⟨p0, p1, p2, p3, p4, p5, p6⟩ := CB.cells (hW.2.1); obtain ⟨q0, q1, q2, q3, q4, q5, q6⟩ := CB.cells (hW.2.2); (try simp only at *); go_simp; try with_reducible rfl)
           simp only [Act.put, List.setIfInBounds_toArray, List.set_cons_zero, List.set_cons_succ])
        | (refine wpGrowS_skip (by simp only [List.getElem?_toArray, List.getElem?_cons_succ, List.getElem?_cons_zero]; rfl) (by rfl) ?_
           simp only [Act.put, List.setIfInBounds_toArray, List.set_cons_zero, List.set_cons_succ]))
    refine wpGrowS_pass hS (by simp only [List.getElem?_toArray, List.getElem?_cons_succ, List.getElem?_cons_zero]; rfl) (by rfl) ?_
    try simp only [Act.put, List.setIfInBounds_toArray, List.set_cons_zero, List.set_cons_succ]
    iterate 2
      (first
        | (refine wpGrowS_float (v := ?_) (by simp only [List.getElem?_toArray, List.getElem?_cons_succ, List.getElem?_cons_zero]; rfl) (by rfl) ?_ ?_
           rotate_left
           · (intro W hW; obtain ⟨p0, p1, p2, p3, p4, p5, p6⟩ := CB.cells (hW.2.1); obtain ⟨q0, q1, q2, q3, q4, q5, q6⟩ := CB.cells (hW.2.2); (try simp only at *); go_simp; try with_reducible rfl)
           simp only [Act.put, List.setIfInBounds_toArray, List.set_cons_zero, List.set_cons_succ])
        | (refine wpGrowS_skip (by simp only [List.getElem?_toArray, List.getElem?_cons_succ, List.getElem?_cons_zero]; rfl) (by rfl) ?_
           simp only [Act.put, List.setIfInBounds_toArray, List.set_cons_zero, List.set_cons_succ]))
    refine wpGrowS_nil ?_
    have HE := Lib.hid hS.1
    clear hS hSp hbn
    generalize wn = wz at *
    go_wp2
    go_ret
    exact ⟨congrArg (fun b => Ending.returned (Value.bool b)) (by rw [HR.out]; simp [*]), HE.out⟩
  rcases s with _ | _
  rotate_left
  · go_enter Try.func19, Try.ntmps19
    go_upto_region 1 with fail
    have hS := HS0.out
    refine wp_region_growS (S := fun W => Below w.heap.size w W ∧ CB W w.heap.size ⟨ak, ab, an, ar, aw, al, ad⟩ ∧ CB W (w.heap.size + 1) ⟨bk, bb, bn, br, bw, bl, bd⟩) [(0, true), (2, true), (1, false), (3, false), (4, false), (5, true), (6, true), (7, true), (8, true), (9, false), (10, true), (11, true)] (by kernel_rfl) (by kernel_rfl) (by kernel_rfl) (by kernel_rfl) (by intro c a d v w h; cases d <;> exact h) hS ?_
    iterate 2
      (first
        | (refine wpGrowS_float (v := ?_) (by simp only [List.getElem?_toArray, List.getElem?_cons_succ, List.getElem?_cons_zero]; rfl) (by rfl) ?_ ?_
           rotate_left
           · (intro W hW; obtain ⟨p0, p1, p2, p3, p4, p5, p6⟩ := CB.cells (hW.2.1); obtain ⟨q0, q1, q2, q3, q4, q5, q6⟩ := CB.cells (hW.2.2); (try simp only at *); go_simp; try with_reducible rfl)
           simp only [Act.put, List.setIfInBounds_toArray, List.set_cons_zero, List.set_cons_succ])
        | (refine wpGrowS_skip (by simp only [List.getElem?_toArray, List.getElem?_cons_succ, List.getElem?_cons_zero]; rfl) (by rfl) ?_
           simp only [Act.put, List.setIfInBounds_toArray, List.set_cons_zero, List.set_cons_succ]))
    refine wpGrowS_call (by simp only [List.getElem?_toArray, List.getElem?_cons_succ, List.getElem?_cons_zero]; rfl) (by rfl) fun K hK => ?_
    go_simp
    go_fit (HGA.out _)
    rintro e wn ⟨rfl, hbn⟩
    have hSp := hS
    have hS : Below w.heap.size w wn ∧ CB wn w.heap.size ⟨ak, ab, an, ar, aw, al, ad⟩ ∧ CB wn (w.heap.size + 1) ⟨bk, bb, bn, br, bw, bl, bd⟩ := ⟨beln (hS.1) hbn, CB.next (hS.2.1) hbn, CB.next (hS.2.2) hbn⟩
    go_simp
    refine hK _ _ hS ?_
    clear hK K
    try simp only [Act.put, List.setIfInBounds_toArray, List.set_cons_zero, List.set_cons_succ]
    refine wpGrowS_call (by simp only [List.getElem?_toArray, List.getElem?_cons_succ, List.getElem?_cons_zero]; rfl) (by rfl) fun K hK => ?_
    go_simp
    go_fit (HGB.out _)
    rintro e wn ⟨rfl, hbn⟩
    have hSp := hS
    have hS : Below w.heap.size w wn ∧ CB wn w.heap.size ⟨ak, ab, an, ar, aw, al, ad⟩ ∧ CB wn (w.heap.size + 1) ⟨bk, bb, bn, br, bw, bl, bd⟩ := ⟨beln (hS.1) hbn, CB.next (hS.2.1) hbn, CB.next (hS.2.2) hbn⟩
    go_simp
    refine hK _ _ hS ?_
    clear hK K
    try simp only [Act.put, List.setIfInBounds_toArray, List.set_cons_zero, List.set_cons_succ]
    refine wpGrowS_call (by simp only [List.getElem?_toArray, List.getElem?_cons_succ, List.getElem?_cons_zero]; rfl) (by rfl) fun K hK => ?_
    go_simp
    go_fit (HOV.out _)
    rintro e wn ⟨rfl, hbn⟩
    have hSp := hS
    have hS : Below w.heap.size w wn ∧ CB wn w.heap.size ⟨ak, ab, an, ar, aw, al, ad⟩ ∧ CB wn (w.heap.size + 1) ⟨bk, bb, bn, br, bw, bl, bd⟩ := ⟨beln (hS.1) hbn, CB.next (hS.2.1) hbn, CB.next (hS.2.2) hbn⟩
    go_simp
    refine hK _ _ hS ?_
    clear hK K
    try simp only [Act.put, List.setIfInBounds_toArray, List.set_cons_zero, List.set_cons_succ]
    iterate 4
      (first
        | (refine wpGrowS_float (v := ?_) (by simp only [List.getElem?_toArray, List.getElem?_cons_succ, List.getElem?_cons_zero]; rfl) (by rfl) ?_ ?_
           rotate_left
           · (intro W hW; obtain ⟨p0, p1, p2, p3, p4, p5, p6⟩ := CB.cells (hW.2.1); obtain ⟨q0, q1, q2, q3, q4, q5, q6⟩ := CB.cells (hW.2.2); (try simp only at *); go_simp; try with_reducible rfl)
           simp only [Act.put, List.setIfInBounds_toArray, List.set_cons_zero, List.set_cons_succ])
        | (refine wpGrowS_skip (by simp only [List.getElem?_toArray, List.getElem?_cons_succ, List.getElem?_cons_zero]; rfl) (by rfl) ?_
           simp only [Act.put, List.setIfInBounds_toArray, List.set_cons_zero, List.set_cons_succ]))
    refine wpGrowS_call (by simp only [List.getElem?_toArray, List.getElem?_cons_succ, List.getElem?_cons_zero]; rfl) (by rfl) fun K hK => ?_
    go_simp
    go_fit (HSM.out _)
    rintro e wn ⟨rfl, hbn⟩
    have hSp := hS
    have hS : Below w.heap.size w wn ∧ CB wn w.heap.size ⟨ak, ab, an, ar, aw, al, ad⟩ ∧ CB wn (w.heap.size + 1) ⟨bk, bb, bn, br, bw, bl, bd⟩ := ⟨beln (hS.1) hbn, CB.next (hS.2.1) hbn, CB.next (hS.2.2) hbn⟩
    go_simp
    refine hK _ _ hS ?_
    clear hK K
    try simp only [Act.put, List.setIfInBounds_toArray, List.set_cons_zero, List.set_cons_succ]
    iterate 2
      (first
        | (refine wpGrowS_float (v := ?_) (by simp only [List.getElem?_toArray, List.getElem?_cons_succ, List.getElem?_cons_zero]; rfl) (by rfl) ?_ ?_
           rotate_left
           · (intro W hW; obtain ⟨p0, p1, p2, p3, p4, p5, p6⟩ := CB.cells (hW.2.1); obtain ⟨q0, q1, q2, q3, q4, q5, q6⟩ := CB.cells (hW.2.2); (try simp only at *); go_simp; try with_reducible rfl)
           simp only [Act.put, List.setIfInBounds_toArray, List.set_cons_zero, List.set_cons_succ])
        | (refine wpGrowS_skip (by simp only [List.getElem?_toArray, List.getElem?_cons_succ, List.getElem?_cons_zero]; rfl) (by rfl) ?_
           simp only [Act.put, List.setIfInBounds_toArray, List.set_cons_zero, List.set_cons_succ]))
    refine wpGrowS_nil ?_
    have HE := Lib.hid hS.1
    clear hS hSp hbn
    generalize wn = wz at *
    go_wp2
    go_ret
    exact ⟨congrArg (fun b => Ending.returned (Value.bool b)) (by rw [HR.out]; simp [*]), HE.out⟩
  go_enter Try.func19, Try.ntmps19
  go_upto_region 1 with fail
  have hS := HS0.out
  refine wp_region_growS (S := fun W => Below w.heap.size w W ∧ CB W w.heap.size ⟨ak, ab, an, ar, aw, al, ad⟩ ∧ CB W (w.heap.size + 1) ⟨bk, bb, bn, br, bw, bl, bd⟩) [(0, true), (2, true), (1, false), (3, false), (4, false), (5, true), (6, true), (7, true), (8, true), (9, false), (10, true), (11, true)] (by kernel_rfl) (by kernel_rfl) (by kernel_rfl) (by kernel_rfl) (by intro c a d v w h; cases d <;> exact h) hS ?_
  iterate 2
    (first
      | (refine wpGrowS_float (v := ?_) (by simp only [List.getElem?_toArray, List.getElem?_cons_succ, List.getElem?_cons_zero]; rfl) (by rfl) ?_ ?_
         rotate_left
         · (intro W hW; obtain ⟨p0, p1, p2, p3, p4, p5, p6⟩ := CB.cells (hW.2.1); obtain ⟨q0, q1, q2, q3, q4, q5, q6⟩ := CB.cells (hW.2.2); (try simp only at *); go_simp; try with_reducible rfl)
         simp only [Act.put, List.setIfInBounds_toArray, List.set_cons_zero, List.set_cons_succ])
      | (refine wpGrowS_skip (by simp only [List.getElem?_toArray, List.getElem?_cons_succ, List.getElem?_cons_zero]; rfl) (by rfl) ?_
         simp only [Act.put, List.setIfInBounds_toArray, List.set_cons_zero, List.set_cons_succ]))
  refine wpGrowS_call (by simp only [List.getElem?_toArray, List.getElem?_cons_succ, List.getElem?_cons_zero]; rfl) (by rfl) fun K hK => ?_
  go_simp
  go_fit (HGA.out _)
  rintro e wn ⟨rfl, hbn⟩
  have hSp := hS
  have hS : Below w.heap.size w wn ∧ CB wn w.heap.size ⟨ak, ab, an, ar, aw, al, ad⟩ ∧ CB wn (w.heap.size + 1) ⟨bk, bb, bn, br, bw, bl, bd⟩ := ⟨beln (hS.1) hbn, CB.next (hS.2.1) hbn, CB.next (hS.2.2) hbn⟩
  go_simp
  refine hK _ _ hS ?_
  clear hK K
  try simp only [Act.put, List.setIfInBounds_toArray, List.set_cons_zero, List.set_cons_succ]
  refine wpGrowS_call (by simp only [List.getElem?_toArray, List.getElem?_cons_succ, List.getElem?_cons_zero]; rfl) (by rfl) fun K hK => ?_
  go_simp
  go_fit (HGB.out _)
  rintro e wn ⟨rfl, hbn⟩
  have hSp := hS
  have hS : Below w.heap.size w wn ∧ CB wn w.heap.size ⟨ak, ab, an, ar, aw, al, ad⟩ ∧ CB wn (w.heap.size + 1) ⟨bk, bb, bn, br, bw, bl, bd⟩ := ⟨beln (hS.1) hbn, CB.next (hS.2.1) hbn, CB.next (hS.2.2) hbn⟩
  go_simp
  refine hK _ _ hS ?_
  clear hK K
  try simp only [Act.put, List.setIfInBounds_toArray, List.set_cons_zero, List.set_cons_succ]
  refine wpGrowS_call (by simp only [List.getElem?_toArray, List.getElem?_cons_succ, List.getElem?_cons_zero]; rfl) (by rfl) fun K hK => ?_
  go_simp
  go_fit (HOV.out _)
  rintro e wn ⟨rfl, hbn⟩
  have hSp := hS
  have hS : Below w.heap.size w wn ∧ CB wn w.heap.size ⟨ak, ab, an, ar, aw, al, ad⟩ ∧ CB wn (w.heap.size + 1) ⟨bk, bb, bn, br, bw, bl, bd⟩ := ⟨beln (hS.1) hbn, CB.next (hS.2.1) hbn, CB.next (hS.2.2) hbn⟩
  go_simp
  refine hK _ _ hS ?_
  clear hK K
  try simp only [Act.put, List.setIfInBounds_toArray, List.set_cons_zero, List.set_cons_succ]
  iterate 4
    (first
      | (refine wpGrowS_float (v := ?_) (by simp only [List.getElem?_toArray, List.getElem?_cons_succ, List.getElem?_cons_zero]; rfl) (by rfl) ?_ ?_
         rotate_left
         · (intro W hW; obtain ⟨p0, p1, p2, p3, p4, p5, p6⟩ := CB.cells (hW.2.1); obtain ⟨q0, q1, q2, q3, q4, q5, q6⟩ := CB.cells (hW.2.2); (try simp only at *); go_simp; try with_reducible rfl)
         simp only [Act.put, List.setIfInBounds_toArray, List.set_cons_zero, List.set_cons_succ])
      | (refine wpGrowS_skip (by simp only [List.getElem?_toArray, List.getElem?_cons_succ, List.getElem?_cons_zero]; rfl) (by rfl) ?_
         simp only [Act.put, List.setIfInBounds_toArray, List.set_cons_zero, List.set_cons_succ]))
  refine wpGrowS_call (by simp only [List.getElem?_toArray, List.getElem?_cons_succ, List.getElem?_cons_zero]; rfl) (by rfl) fun K hK => ?_
  go_simp
  go_fit (HSM.out _)
  rintro e wn ⟨rfl, hbn⟩
  have hSp := hS
  have hS : Below w.heap.size w wn ∧ CB wn w.heap.size ⟨ak, ab, an, ar, aw, al, ad⟩ ∧ CB wn (w.heap.size + 1) ⟨bk, bb, bn, br, bw, bl, bd⟩ := ⟨beln (hS.1) hbn, CB.next (hS.2.1) hbn, CB.next (hS.2.2) hbn⟩
  go_simp
  refine hK _ _ hS ?_
  clear hK K
  try simp only [Act.put, List.setIfInBounds_toArray, List.set_cons_zero, List.set_cons_succ]
  iterate 2
    (first
      | (refine wpGrowS_float (v := ?_) (by simp only [List.getElem?_toArray, List.getElem?_cons_succ, List.getElem?_cons_zero]; rfl) (by rfl) ?_ ?_
         rotate_left
         · (intro W hW; obtain ⟨p0, p1, p2, p3, p4, p5, p6⟩ := CB.cells (hW.2.1); obtain ⟨q0, q1, q2, q3, q4, q5, q6⟩ := CB.cells (hW.2.2); (try simp only at *); go_simp; try with_reducible rfl)
         simp only [Act.put, List.setIfInBounds_toArray, List.set_cons_zero, List.set_cons_succ])
      | (refine wpGrowS_skip (by simp only [List.getElem?_toArray, List.getElem?_cons_succ, List.getElem?_cons_zero]; rfl) (by rfl) ?_
         simp only [Act.put, List.setIfInBounds_toArray, List.set_cons_zero, List.set_cons_succ]))
  refine wpGrowS_nil ?_
  clear HOV HSM
  by_cases ha1 : ak = 1
  · subst ha1
    have HS3 := Lib.hid hS
    clear hS hSp hbn
    generalize wn = w1 at *
    go_upto_region 3 with fail
    have hS := CS2.drew HS3.out
    rcases c1 with _ | _
    rotate_left
    · refine wp_region_growS (S := fun W => Below w.heap.size w W ∧ CB W w.heap.size ⟨1, ab, an, ar, aw, al, ad⟩ ∧ CB W (w.heap.size + 1) ⟨bk, bb, bn, br, bw, bl, bd⟩) [(0, true), (1, true), (2, true), (3, true), (4, true), (6, true), (5, false), (7, false), (8, false), (9, true), (10, true)] (by kernel_rfl) (by kernel_rfl) (by kernel_rfl) (by kernel_rfl) (by intro c a d v w h; cases d <;> exact h) hS ?_
      iterate 6
        (first
          | (refine wpGrowS_float (v := ?_) (by simp only [List.getElem?_toArray, List.getElem?_cons_succ, List.getElem?_cons_zero]; rfl) (by rfl) ?_ ?_
             rotate_left
             · (intro W hW; obtain ⟨p0, p1, p2, p3, p4, p5, p6⟩ := CB.cells (hW.2.1); obtain ⟨q0, q1, q2, q3, q4, q5, q6⟩ := CB.cells (hW.2.2); (try simp only at *); go_simp; try with_reducible rfl)
             simp only [Act.put, List.setIfInBounds_toArray, List.set_cons_zero, List.set_cons_succ])
          | (refine wpGrowS_skip (by simp only [List.getElem?_toArray, List.getElem?_cons_succ, List.getElem?_cons_zero]; rfl) (by rfl) ?_
             simp only [Act.put, List.setIfInBounds_toArray, List.set_cons_zero, List.set_cons_succ]))
      refine wpGrowS_call (by simp only [List.getElem?_toArray, List.getElem?_cons_succ, List.getElem?_cons_zero]; rfl) (by rfl) fun K hK => ?_
      go_simp
      go_fit (HGA.out _)
      rintro e wn ⟨rfl, hbn⟩
      have hSp := hS
      have hS : Below w.heap.size w wn ∧ CB wn w.heap.size ⟨1, ab, an, ar, aw, al, ad⟩ ∧ CB wn (w.heap.size + 1) ⟨bk, bb, bn, br, bw, bl, bd⟩ := ⟨beln (hS.1) hbn, CB.next (hS.2.1) hbn, CB.next (hS.2.2) hbn⟩
      go_simp
      refine hK _ _ hS ?_
      clear hK K
      try simp only [Act.put, List.setIfInBounds_toArray, List.set_cons_zero, List.set_cons_succ]
      refine wpGrowS_call (by simp only [List.getElem?_toArray, List.getElem?_cons_succ, List.getElem?_cons_zero]; rfl) (by rfl) fun K hK => ?_
      go_simp
      go_fit (HGB.out _)
      rintro e wn ⟨rfl, hbn⟩
      have hSp := hS
      have hS : Below w.heap.size w wn ∧ CB wn w.heap.size ⟨1, ab, an, ar, aw, al, ad⟩ ∧ CB wn (w.heap.size + 1) ⟨bk, bb, bn, br, bw, bl, bd⟩ := ⟨beln (hS.1) hbn, CB.next (hS.2.1) hbn, CB.next (hS.2.2) hbn⟩
      go_simp
      refine hK _ _ hS ?_
      clear hK K
      try simp only [Act.put, List.setIfInBounds_toArray, List.set_cons_zero, List.set_cons_succ]
      refine wpGrowS_call (by simp only [List.getElem?_toArray, List.getElem?_cons_succ, List.getElem?_cons_zero]; rfl) (by rfl) fun K hK => ?_
      go_simp
      go_fit (HC1.out _)
      rintro e wn ⟨rfl, hbn⟩
      have hSp := hS
      have hS : Below w.heap.size w wn ∧ CB wn w.heap.size ⟨1, ab, an, ar, aw, al, ad⟩ ∧ CB wn (w.heap.size + 1) ⟨bk, bb, bn, br, bw, bl, bd⟩ := ⟨beln (hS.1) hbn, CB.next (hS.2.1) hbn, CB.next (hS.2.2) hbn⟩
      go_simp
      refine hK _ _ hS ?_
      clear hK K
      try simp only [Act.put, List.setIfInBounds_toArray, List.set_cons_zero, List.set_cons_succ]
      iterate 2
        (first
          | (refine wpGrowS_float (v := ?_) (by simp only [List.getElem?_toArray, List.getElem?_cons_succ, List.getElem?_cons_zero]; rfl) (by rfl) ?_ ?_
             rotate_left
             · (intro W hW; obtain ⟨p0, p1, p2, p3, p4, p5, p6⟩ := CB.cells (hW.2.1); obtain ⟨q0, q1, q2, q3, q4, q5, q6⟩ := CB.cells (hW.2.2); (try simp only at *); go_simp; try with_reducible rfl)
             simp only [Act.put, List.setIfInBounds_toArray, List.set_cons_zero, List.set_cons_succ])
          | (refine wpGrowS_skip (by simp only [List.getElem?_toArray, List.getElem?_cons_succ, List.getElem?_cons_zero]; rfl) (by rfl) ?_
             simp only [Act.put, List.setIfInBounds_toArray, List.set_cons_zero, List.set_cons_succ]))
      refine wpGrowS_nil ?_
      have HE := Lib.hid hS.1
      clear hS hSp hbn
      generalize wn = wz at *
      go_wp2
      go_ret
      exact ⟨congrArg (fun b => Ending.returned (Value.bool b)) (by rw [HR.out]; simp [*]), HE.out⟩
    refine wp_region_growS (S := fun W => Below w.heap.size w W ∧ CB W w.heap.size ⟨1, ab, an, ar, aw, al, ad⟩ ∧ CB W (w.heap.size + 1) ⟨bk, bb, bn, br, bw, bl, bd⟩) [(0, true), (1, true), (2, true), (3, true), (4, true), (6, true), (5, false), (7, false), (8, false), (9, true), (10, true)] (by kernel_rfl) (by kernel_rfl) (by kernel_rfl) (by kernel_rfl) (by intro c a d v w h; cases d <;> exact h) hS ?_
    iterate 6
      (first
        | (refine wpGrowS_float (v := ?_) (by simp only [List.getElem?_toArray, List.getElem?_cons_succ, List.getElem?_cons_zero]; rfl) (by rfl) ?_ ?_
           rotate_left
           · (intro W hW; obtain ⟨p0, p1, p2, p3, p4, p5, p6⟩ := CB.cells (hW.2.1); obtain ⟨q0, q1, q2, q3, q4, q5, q6⟩ := CB.cells (hW.2.2); (try simp only at *); go_simp; try with_reducible rfl)
           simp only [Act.put, List.setIfInBounds_toArray, List.set_cons_zero, List.set_cons_succ])
        | (refine wpGrowS_skip (by simp only [List.getElem?_toArray, List.getElem?_cons_succ, List.getElem?_cons_zero]; rfl) (by rfl) ?_
           simp only [Act.put, List.setIfInBounds_toArray, List.set_cons_zero, List.set_cons_succ]))
    refine wpGrowS_call (by simp only [List.getElem?_toArray, List.getElem?_cons_succ, List.getElem?_cons_zero]; rfl) (by rfl) fun K hK => ?_
    go_simp
    go_fit (HGA.out _)
    rintro e wn ⟨rfl, hbn⟩
    have hSp := hS
    have hS : Below w.heap.size w wn ∧ CB wn w.heap.size ⟨1, ab, an, ar, aw, al, ad⟩ ∧ CB wn (w.heap.size + 1) ⟨bk, bb, bn, br, bw, bl, bd⟩ := ⟨beln (hS.1) hbn, CB.next (hS.2.1) hbn, CB.next (hS.2.2) hbn⟩
    go_simp
    refine hK _ _ hS ?_
    clear hK K
    try simp only [Act.put, List.setIfInBounds_toArray, List.set_cons_zero, List.set_cons_succ]
    refine wpGrowS_call (by simp only [List.getElem?_toArray, List.getElem?_cons_succ, List.getElem?_cons_zero]; rfl) (by rfl) fun K hK => ?_
    go_simp
    go_fit (HGB.out _)
    rintro e wn ⟨rfl, hbn⟩
    have hSp := hS
    have hS : Below w.heap.size w wn ∧ CB wn w.heap.size ⟨1, ab, an, ar, aw, al, ad⟩ ∧ CB wn (w.heap.size + 1) ⟨bk, bb, bn, br, bw, bl, bd⟩ := ⟨beln (hS.1) hbn, CB.next (hS.2.1) hbn, CB.next (hS.2.2) hbn⟩
    go_simp
    refine hK _ _ hS ?_
    clear hK K
    try simp only [Act.put, List.setIfInBounds_toArray, List.set_cons_zero, List.set_cons_succ]
    refine wpGrowS_call (by simp only [List.getElem?_toArray, List.getElem?_cons_succ, List.getElem?_cons_zero]; rfl) (by rfl) fun K hK => ?_
    go_simp
    go_fit (HC1.out _)
    rintro e wn ⟨rfl, hbn⟩
    have hSp := hS
    have hS : Below w.heap.size w wn ∧ CB wn w.heap.size ⟨1, ab, an, ar, aw, al, ad⟩ ∧ CB wn (w.heap.size + 1) ⟨bk, bb, bn, br, bw, bl, bd⟩ := ⟨beln (hS.1) hbn, CB.next (hS.2.1) hbn, CB.next (hS.2.2) hbn⟩
    go_simp
    refine hK _ _ hS ?_
    clear hK K
    try simp only [Act.put, List.setIfInBounds_toArray, List.set_cons_zero, List.set_cons_succ]
    iterate 2
      (first
        | (refine wpGrowS_float (v := ?_) (by simp only [List.getElem?_toArray, List.getElem?_cons_succ, List.getElem?_cons_zero]; rfl) (by rfl) ?_ ?_
           rotate_left
           · (intro W hW; obtain ⟨p0, p1, p2, p3, p4, p5, p6⟩ := CB.cells (hW.2.1); obtain ⟨q0, q1, q2, q3, q4, q5, q6⟩ := CB.cells (hW.2.2); (try simp only at *); go_simp; try with_reducible rfl)
           simp only [Act.put, List.setIfInBounds_toArray, List.set_cons_zero, List.set_cons_succ])
        | (refine wpGrowS_skip (by simp only [List.getElem?_toArray, List.getElem?_cons_succ, List.getElem?_cons_zero]; rfl) (by rfl) ?_
           simp only [Act.put, List.setIfInBounds_toArray, List.set_cons_zero, List.set_cons_succ]))
    refine wpGrowS_nil ?_
    have HS5 := Lib.hid hS
    clear hS hSp hbn
    generalize wn = w2 at *
    go_upto_region 5 with fail
    have hS := CS2.drew HS5.out
    by_cases hb1 : bk = 1
    · subst hb1
      refine wp_region_growS (S := fun W => Below w.heap.size w W ∧ CB W w.heap.size ⟨1, ab, an, ar, aw, al, ad⟩ ∧ CB W (w.heap.size + 1) ⟨1, bb, bn, br, bw, bl, bd⟩) [(0, true), (1, true), (2, true), (3, true), (4, true), (6, true), (5, false), (7, false), (8, false), (9, true), (10, true)] (by kernel_rfl) (by kernel_rfl) (by kernel_rfl) (by kernel_rfl) (by intro c a d v w h; cases d <;> exact h) hS ?_
      iterate 6
        (first
          | (refine wpGrowS_float (v := ?_) (by simp only [List.getElem?_toArray, List.getElem?_cons_succ, List.getElem?_cons_zero]; rfl) (by rfl) ?_ ?_
             rotate_left
             · (intro W hW; obtain ⟨p0, p1, p2, p3, p4, p5, p6⟩ := CB.cells (hW.2.1); obtain ⟨q0, q1, q2, q3, q4, q5, q6⟩ := CB.cells (hW.2.2); (try simp only at *); go_simp; try with_reducible rfl)
             simp only [Act.put, List.setIfInBounds_toArray, List.set_cons_zero, List.set_cons_succ])
          | (refine wpGrowS_skip (by simp only [List.getElem?_toArray, List.getElem?_cons_succ, List.getElem?_cons_zero]; rfl) (by rfl) ?_
             simp only [Act.put, List.setIfInBounds_toArray, List.set_cons_zero, List.set_cons_succ]))
      refine wpGrowS_call (by simp only [List.getElem?_toArray, List.getElem?_cons_succ, List.getElem?_cons_zero]; rfl) (by rfl) fun K hK => ?_
      go_simp
      go_fit (HGB.out _)
      rintro e wn ⟨rfl, hbn⟩
      have hSp := hS
      have hS : Below w.heap.size w wn ∧ CB wn w.heap.size ⟨1, ab, an, ar, aw, al, ad⟩ ∧ CB wn (w.heap.size + 1) ⟨1, bb, bn, br, bw, bl, bd⟩ := ⟨beln (hS.1) hbn, CB.next (hS.2.1) hbn, CB.next (hS.2.2) hbn⟩
      go_simp
      refine hK _ _ hS ?_
      clear hK K
      try simp only [Act.put, List.setIfInBounds_toArray, List.set_cons_zero, List.set_cons_succ]
      refine wpGrowS_call (by simp only [List.getElem?_toArray, List.getElem?_cons_succ, List.getElem?_cons_zero]; rfl) (by rfl) fun K hK => ?_
      go_simp
      go_fit (HGA.out _)
      rintro e wn ⟨rfl, hbn⟩
      have hSp := hS
      have hS : Below w.heap.size w wn ∧ CB wn w.heap.size ⟨1, ab, an, ar, aw, al, ad⟩ ∧ CB wn (w.heap.size + 1) ⟨1, bb, bn, br, bw, bl, bd⟩ := ⟨beln (hS.1) hbn, CB.next (hS.2.1) hbn, CB.next (hS.2.2) hbn⟩
      go_simp
      refine hK _ _ hS ?_
      clear hK K
      try simp only [Act.put, List.setIfInBounds_toArray, List.set_cons_zero, List.set_cons_succ]
      refine wpGrowS_call (by simp only [List.getElem?_toArray, List.getElem?_cons_succ, List.getElem?_cons_zero]; rfl) (by rfl) fun K hK => ?_
      go_simp
      go_fit (HC2.out _)
      rintro e wn ⟨rfl, hbn⟩
      have hSp := hS
      have hS : Below w.heap.size w wn ∧ CB wn w.heap.size ⟨1, ab, an, ar, aw, al, ad⟩ ∧ CB wn (w.heap.size + 1) ⟨1, bb, bn, br, bw, bl, bd⟩ := ⟨beln (hS.1) hbn, CB.next (hS.2.1) hbn, CB.next (hS.2.2) hbn⟩
      go_simp
      refine hK _ _ hS ?_
      clear hK K
      try simp only [Act.put, List.setIfInBounds_toArray, List.set_cons_zero, List.set_cons_succ]
      iterate 2
        (first
          | (refine wpGrowS_float (v := ?_) (by simp only [List.getElem?_toArray, List.getElem?_cons_succ, List.getElem?_cons_zero]; rfl) (by rfl) ?_ ?_
             rotate_left
             · (intro W hW; obtain ⟨p0, p1, p2, p3, p4, p5, p6⟩ := CB.cells (hW.2.1); obtain ⟨q0, q1, q2, q3, q4, q5, q6⟩ := CB.cells (hW.2.2); (try simp only at *); go_simp; try with_reducible rfl)
             simp only [Act.put, List.setIfInBounds_toArray, List.set_cons_zero, List.set_cons_succ])
          | (refine wpGrowS_skip (by simp only [List.getElem?_toArray, List.getElem?_cons_succ, List.getElem?_cons_zero]; rfl) (by rfl) ?_
             simp only [Act.put, List.setIfInBounds_toArray, List.set_cons_zero, List.set_cons_succ]))
      refine wpGrowS_nil ?_
      have HE := Lib.hid hS.1
      clear hS hSp hbn
      generalize wn = wz at *
      go_wp2
      go_ret
      exact ⟨congrArg (fun b => Ending.returned (Value.bool b)) (by rw [HR.out]; simp [*]), HE.out⟩
    · have fb1 : (bk == 1) = false := beq_eq_false_iff_ne.2 hb1
      refine wp_region_growS (S := fun W => Below w.heap.size w W ∧ CB W w.heap.size ⟨1, ab, an, ar, aw, al, ad⟩ ∧ CB W (w.heap.size + 1) ⟨bk, bb, bn, br, bw, bl, bd⟩) [(0, true), (1, true), (2, true), (3, true), (4, true), (6, true), (5, false), (7, false), (8, false), (9, true), (10, true)] (by kernel_rfl) (by kernel_rfl) (by kernel_rfl) (by kernel_rfl) (by intro c a d v w h; cases d <;> exact h) hS ?_
      iterate 6
        (first
          | (refine wpGrowS_float (v := ?_) (by simp only [List.getElem?_toArray, List.getElem?_cons_succ, List.getElem?_cons_zero]; rfl) (by rfl) ?_ ?_
             rotate_left
             · (intro W hW; obtain ⟨p0, p1, p2, p3, p4, p5, p6⟩ := CB.cells (hW.2.1); obtain ⟨q0, q1, q2, q3, q4, q5, q6⟩ := CB.cells (hW.2.2); (try simp only at *); go_simp; try with_reducible rfl)
             simp only [Act.put, List.setIfInBounds_toArray, List.set_cons_zero, List.set_cons_succ])
          | (refine wpGrowS_skip (by simp only [List.getElem?_toArray, List.getElem?_cons_succ, List.getElem?_cons_zero]; rfl) (by rfl) ?_
             simp only [Act.put, List.setIfInBounds_toArray, List.set_cons_zero, List.set_cons_succ]))
      refine wpGrowS_pass hS (by simp only [List.getElem?_toArray, List.getElem?_cons_succ, List.getElem?_cons_zero]; rfl) (by rfl) ?_
      try simp only [Act.put, List.setIfInBounds_toArray, List.set_cons_zero, List.set_cons_succ]
      refine wpGrowS_pass hS (by simp only [List.getElem?_toArray, List.getElem?_cons_succ, List.getElem?_cons_zero]; rfl) (by rfl) ?_
      try simp only [Act.put, List.setIfInBounds_toArray, List.set_cons_zero, List.set_cons_succ]
      refine wpGrowS_pass hS (by simp only [List.getElem?_toArray, List.getElem?_cons_succ, List.getElem?_cons_zero]; rfl) (by rfl) ?_
      try simp only [Act.put, List.setIfInBounds_toArray, List.set_cons_zero, List.set_cons_succ]
      iterate 2
        (first
          | (refine wpGrowS_float (v := ?_) (by simp only [List.getElem?_toArray, List.getElem?_cons_succ, List.getElem?_cons_zero]; rfl) (by rfl) ?_ ?_
             rotate_left
             · (intro W hW; obtain ⟨p0, p1, p2, p3, p4, p5, p6⟩ := CB.cells (hW.2.1); obtain ⟨q0, q1, q2, q3, q4, q5, q6⟩ := CB.cells (hW.2.2); (try simp only at *); go_simp; try with_reducible rfl)
             simp only [Act.put, List.setIfInBounds_toArray, List.set_cons_zero, List.set_cons_succ])
          | (refine wpGrowS_skip (by simp only [List.getElem?_toArray, List.getElem?_cons_succ, List.getElem?_cons_zero]; rfl) (by rfl) ?_
             simp only [Act.put, List.setIfInBounds_toArray, List.set_cons_zero, List.set_cons_succ]))
      refine wpGrowS_nil ?_
      have HE := Lib.hid hS.1
      clear hS
      go_wp2
      go_ret
      exact ⟨congrArg (fun b => Ending.returned (Value.bool b)) (by rw [HR.out]; simp [*]), HE.out⟩
  · have fa1 : (ak == 1) = false := beq_eq_false_iff_ne.2 ha1
    have HS3 := Lib.hid hS
    clear hS hSp hbn
    generalize wn = w1 at *
    go_upto_region 3 with fail
    have hS := CS2.drew HS3.out
    refine wp_region_growS (S := fun W => Below w.heap.size w W ∧ CB W w.heap.size ⟨ak, ab, an, ar, aw, al, ad⟩ ∧ CB W (w.heap.size + 1) ⟨bk, bb, bn, br, bw, bl, bd⟩) [(0, true), (1, true), (2, true), (3, true), (4, true), (6, true), (5, false), (7, false), (8, false), (9, true), (10, true)] (by kernel_rfl) (by kernel_rfl) (by kernel_rfl) (by kernel_rfl) (by intro c a d v w h; cases d <;> exact h) hS ?_
    iterate 6
      (first
        | (refine wpGrowS_float (v := ?_) (by simp only [List.getElem?_toArray, List.getElem?_cons_succ, List.getElem?_cons_zero]; rfl) (by rfl) ?_ ?_
           rotate_left
           · (intro W hW; obtain ⟨p0, p1, p2, p3, p4, p5, p6⟩ := CB.cells (hW.2.1); obtain ⟨q0, q1, q2, q3, q4, q5, q6⟩ := CB.cells (hW.2.2); (try simp only at *); go_simp; try with_reducible rfl)
           simp only [Act.put, List.setIfInBounds_toArray, List.set_cons_zero, List.set_cons_succ])
        | (refine wpGrowS_skip (by simp only [List.getElem?_toArray, List.getElem?_cons_succ, List.getElem?_cons_zero]; rfl) (by rfl) ?_
           simp only [Act.put, List.setIfInBounds_toArray, List.set_cons_zero, List.set_cons_succ]))
    refine wpGrowS_pass hS (by simp only [List.getElem?_toArray, List.getElem?_cons_succ, List.getElem?_cons_zero]; rfl) (by rfl) ?_
    try simp only [Act.put, List.setIfInBounds_toArray, List.set_cons_zero, List.set_cons_succ]
    refine wpGrowS_pass hS (by simp only [List.getElem?_toArray, List.getElem?_cons_succ, List.getElem?_cons_zero]; rfl) (by rfl) ?_
    try simp only [Act.put, List.setIfInBounds_toArray, List.set_cons_zero, List.set_cons_succ]
    refine wpGrowS_pass hS (by simp only [List.getElem?_toArray, List.getElem?_cons_succ, List.getElem?_cons_zero]; rfl) (by rfl) ?_
    try simp only [Act.put, List.setIfInBounds_toArray, List.set_cons_zero, List.set_cons_succ]
    iterate 2
      (first
        | (refine wpGrowS_float (v := ?_) (by simp only [List.getElem?_toArray, List.getElem?_cons_succ, List.getElem?_cons_zero]; rfl) (by rfl) ?_ ?_
           rotate_left
           · (intro W hW; obtain ⟨p0, p1, p2, p3, p4, p5, p6⟩ := CB.cells (hW.2.1); obtain ⟨q0, q1, q2, q3, q4, q5, q6⟩ := CB.cells (hW.2.2); (try simp only at *); go_simp; try with_reducible rfl)
           simp only [Act.put, List.setIfInBounds_toArray, List.set_cons_zero, List.set_cons_succ])
        | (refine wpGrowS_skip (by simp only [List.getElem?_toArray, List.getElem?_cons_succ, List.getElem?_cons_zero]; rfl) (by rfl) ?_
           simp only [Act.put, List.setIfInBounds_toArray, List.set_cons_zero, List.set_cons_succ]))
    refine wpGrowS_nil ?_
    have HS5 := Lib.hid hS
    clear hS
    go_upto_region 5 with fail
    have hS := CS2.drew HS5.out
    by_cases hb1 : bk = 1
    · subst hb1
      refine wp_region_growS (S := fun W => Below w.heap.size w W ∧ CB W w.heap.size ⟨ak, ab, an, ar, aw, al, ad⟩ ∧ CB W (w.heap.size + 1) ⟨1, bb, bn, br, bw, bl, bd⟩) [(0, true), (1, true), (2, true), (3, true), (4, true), (6, true), (5, false), (7, false), (8, false), (9, true), (10, true)] (by kernel_rfl) (by kernel_rfl) (by kernel_rfl) (by kernel_rfl) (by intro c a d v w h; cases d <;> exact h) hS ?_
      iterate 6
        (first
          | (refine wpGrowS_float (v := ?_) (by simp only [List.getElem?_toArray, List.getElem?_cons_succ, List.getElem?_cons_zero]; rfl) (by rfl) ?_ ?_
             rotate_left
             · (intro W hW; obtain ⟨p0, p1, p2, p3, p4, p5, p6⟩ := CB.cells (hW.2.1); obtain ⟨q0, q1, q2, q3, q4, q5, q6⟩ := CB.cells (hW.2.2); (try simp only at *); go_simp; try with_reducible rfl)
             simp only [Act.put, List.setIfInBounds_toArray, List.set_cons_zero, List.set_cons_succ])
          | (refine wpGrowS_skip (by simp only [List.getElem?_toArray, List.getElem?_cons_succ, List.getElem?_cons_zero]; rfl) (by rfl) ?_
             simp only [Act.put, List.setIfInBounds_toArray, List.set_cons_zero, List.set_cons_succ]))
      refine wpGrowS_call (by simp only [List.getElem?_toArray, List.getElem?_cons_succ, List.getElem?_cons_zero]; rfl) (by rfl) fun K hK => ?_
      go_simp
      go_fit (HGB.out _)
      rintro e wn ⟨rfl, hbn⟩
      have hSp := hS
      have hS : Below w.heap.size w wn ∧ CB wn w.heap.size ⟨ak, ab, an, ar, aw, al, ad⟩ ∧ CB wn (w.heap.size + 1) ⟨1, bb, bn, br, bw, bl, bd⟩ := ⟨beln (hS.1) hbn, CB.next (hS.2.1) hbn, CB.next (hS.2.2) hbn⟩
      go_simp
      refine hK _ _ hS ?_
      clear hK K
      try simp only [Act.put, List.setIfInBounds_toArray, List.set_cons_zero, List.set_cons_succ]
      refine wpGrowS_call (by simp only [List.getElem?_toArray, List.getElem?_cons_succ, List.getElem?_cons_zero]; rfl) (by rfl) fun K hK => ?_
      go_simp
      go_fit (HGA.out _)
      rintro e wn ⟨rfl, hbn⟩
      have hSp := hS
      have hS : Below w.heap.size w wn ∧ CB wn w.heap.size ⟨ak, ab, an, ar, aw, al, ad⟩ ∧ CB wn (w.heap.size + 1) ⟨1, bb, bn, br, bw, bl, bd⟩ := ⟨beln (hS.1) hbn, CB.next (hS.2.1) hbn, CB.next (hS.2.2) hbn⟩
      go_simp
      refine hK _ _ hS ?_
      clear hK K
      try simp only [Act.put, List.setIfInBounds_toArray, List.set_cons_zero, List.set_cons_succ]
      refine wpGrowS_call (by simp only [List.getElem?_toArray, List.getElem?_cons_succ, List.getElem?_cons_zero]; rfl) (by rfl) fun K hK => ?_
      go_simp
      go_fit (HC2.out _)
      rintro e wn ⟨rfl, hbn⟩
      have hSp := hS
      have hS : Below w.heap.size w wn ∧ CB wn w.heap.size ⟨ak, ab, an, ar, aw, al, ad⟩ ∧ CB wn (w.heap.size + 1) ⟨1, bb, bn, br, bw, bl, bd⟩ := ⟨beln (hS.1) hbn, CB.next (hS.2.1) hbn, CB.next (hS.2.2) hbn⟩
      go_simp
      refine hK _ _ hS ?_
      clear hK K
      try simp only [Act.put, List.setIfInBounds_toArray, List.set_cons_zero, List.set_cons_succ]
      iterate 2
        (first
          | (refine wpGrowS_float (v := ?_) (by simp only [List.getElem?_toArray, List.getElem?_cons_succ, List.getElem?_cons_zero]; rfl) (by rfl) ?_ ?_
             rotate_left
             · (intro W hW; obtain ⟨p0, p1, p2, p3, p4, p5, p6⟩ := CB.cells (hW.2.1); obtain ⟨q0, q1, q2, q3, q4, q5, q6⟩ := CB.cells (hW.2.2); (try simp only at *); go_simp; try with_reducible rfl)
             simp only [Act.put, List.setIfInBounds_toArray, List.set_cons_zero, List.set_cons_succ])
          | (refine wpGrowS_skip (by simp only [List.getElem?_toArray, List.getElem?_cons_succ, List.getElem?_cons_zero]; rfl) (by rfl) ?_
             simp only [Act.put, List.setIfInBounds_toArray, List.set_cons_zero, List.set_cons_succ]))
      refine wpGrowS_nil ?_
      have HE := Lib.hid hS.1
      clear hS hSp hbn
      generalize wn = wz at *
      go_wp2
      go_ret
      exact ⟨congrArg (fun b => Ending.returned (Value.bool b)) (by rw [HR.out]; simp [*]), HE.out⟩
    · have fb1 : (bk == 1) = false := beq_eq_false_iff_ne.2 hb1
      refine wp_region_growS (S := fun W => Below w.heap.size w W ∧ CB W w.heap.size ⟨ak, ab, an, ar, aw, al, ad⟩ ∧ CB W (w.heap.size + 1) ⟨bk, bb, bn, br, bw, bl, bd⟩) [(0, true), (1, true), (2, true), (3, true), (4, true), (6, true), (5, false), (7, false), (8, false), (9, true), (10, true)] (by kernel_rfl) (by kernel_rfl) (by kernel_rfl) (by kernel_rfl) (by intro c a d v w h; cases d <;> exact h) hS ?_
      iterate 6
        (first
          | (refine wpGrowS_float (v := ?_) (by simp only [List.getElem?_toArray, List.getElem?_cons_succ, List.getElem?_cons_zero]; rfl) (by rfl) ?_ ?_
             rotate_left
             · (intro W hW; obtain ⟨p0, p1, p2, p3, p4, p5, p6⟩ := CB.cells (hW.2.1); obtain ⟨q0, q1, q2, q3, q4, q5, q6⟩ := CB.cells (hW.2.2); (try simp only at *); go_simp; try with_reducible rfl)
             simp only [Act.put, List.setIfInBounds_toArray, List.set_cons_zero, List.set_cons_succ])
          | (refine wpGrowS_skip (by simp only [List.getElem?_toArray, List.getElem?_cons_succ, List.getElem?_cons_zero]; rfl) (by rfl) ?_
             simp only [Act.put, List.setIfInBounds_toArray, List.set_cons_zero, List.set_cons_succ]))
      refine wpGrowS_pass hS (by simp only [List.getElem?_toArray, List.getElem?_cons_succ, List.getElem?_cons_zero]; rfl) (by rfl) ?_
      try simp only [Act.put, List.setIfInBounds_toArray, List.set_cons_zero, List.set_cons_succ]
      refine wpGrowS_pass hS (by simp only [List.getElem?_toArray, List.getElem?_cons_succ, List.getElem?_cons_zero]; rfl) (by rfl) ?_
      try simp only [Act.put, List.setIfInBounds_toArray, List.set_cons_zero, List.set_cons_succ]
      refine wpGrowS_pass hS (by simp only [List.getElem?_toArray, List.getElem?_cons_succ, List.getElem?_cons_zero]; rfl) (by rfl) ?_
      try simp only [Act.put, List.setIfInBounds_toArray, List.set_cons_zero, List.set_cons_succ]
      iterate 2
        (first
          | (refine wpGrowS_float (v := ?_) (by simp only [List.getElem?_toArray, List.getElem?_cons_succ, List.getElem?_cons_zero]; rfl) (by rfl) ?_ ?_
             rotate_left
             · (intro W hW; obtain ⟨p0, p1, p2, p3, p4, p5, p6⟩ := CB.cells (hW.2.1); obtain ⟨q0, q1, q2, q3, q4, q5, q6⟩ := CB.cells (hW.2.2); (try simp only at *); go_simp; try with_reducible rfl)
             simp only [Act.put, List.setIfInBounds_toArray, List.set_cons_zero, List.set_cons_succ])
          | (refine wpGrowS_skip (by simp only [List.getElem?_toArray, List.getElem?_cons_succ, List.getElem?_cons_zero]; rfl) (by rfl) ?_
             simp only [Act.put, List.setIfInBounds_toArray, List.set_cons_zero, List.set_cons_succ]))
      refine wpGrowS_nil ?_
      have HE := Lib.hid hS.1
      clear hS
      go_wp2
      go_ret
      exact ⟨congrArg (fun b => Ending.returned (Value.bool b)) (by rw [HR.out]; simp [*]), HE.out⟩
end Go.Proofs.Ytpjakfbjiioflaa
