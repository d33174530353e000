/-
  The law NodeOrder returns true.
  Conditions: none.
-/
import Derived.Test.YtnoegjfokceghaaNap
namespace Go.Proofs.Ytnoegjfokceghaa

open Go.RowKit

theorem lt_irr (a : GId) : ltI a a = false := by unfold ltI; simp
theorem lt_anti {a b : GId} (h : eqI a b = false) : ltI a b = !ltI b a := by
  obtain ⟨a0, a1, a2⟩ := a
  obtain ⟨b0, b1, b2⟩ := b
  unfold eqI at h
  unfold ltI
  simp only at h ⊢
  by_cases h0 : a0 = b0
  · subst h0
    by_cases h1 : a1 = b1
    · subst h1
      have h2 : a2 ≠ b2 := by rintro rfl; simp at h
      simp only [ne_eq, not_true_eq_false, if_false]
      rw [Bool.eq_iff_iff]
      simp only [decide_eq_true_eq, Bool.not_eq_true', decide_eq_false_iff_not]
      omega
    · rw [if_neg (by simp), if_pos h1, if_neg (by simp), if_pos (fun e => h1 e.symm), Bool.eq_iff_iff]
      simp only [decide_eq_true_eq, Bool.not_eq_true', decide_eq_false_iff_not]
      omega
  · rw [if_pos h0, if_pos (fun e => h0 e.symm), Bool.eq_iff_iff]
    simp only [decide_eq_true_eq, Bool.not_eq_true', decide_eq_false_iff_not]
    omega
theorem lt_iff (a b : GId) : ltI a b = true ↔ a.core < b.core ∨ (a.core = b.core ∧ (a.op < b.op ∨ (a.op = b.op ∧ a.part < b.part))) := by
  unfold ltI
  split
  · rw [decide_eq_true_eq]; omega
  · split
    · rw [decide_eq_true_eq]; omega
    · rw [decide_eq_true_eq]; omega
theorem lt_tr {a b c : GId} (h1 : ltI a b = true) (h2 : ltI b c = true) : ltI a c = true := by
  rw [lt_iff] at *
  omega
set_option maxRecDepth 20000 in
set_option maxHeartbeats 4000000 in
theorem lord12 (a b c : GId) (w : World) : Calls Try.prog 7 #[a.val, b.val, c.val] w fun e w' => e = .returned (.bool true) ∧ Below w.heap.size w w' := by
  have HAW := Lib.hid fun W => awake12 W
  have HAA := Lib.hid fun W => pLess_any a a W
  have HAB := Lib.hid fun W => pLess_any a b W
  have HBA := Lib.hid fun W => pLess_any b a W
  have HBC := Lib.hid fun W => pLess_any b c W
  have HAC := Lib.hid fun W => pLess_any a c W
  have HEQ := Lib.hid fun W => id_eql a b W
  have HTR := Lib.hid fun (h1 : ltI a b = true) (h2 : ltI b c = true) => lt_tr h1 h2
  have HAN := Lib.hid fun (h : eqI a b = false) => lt_anti h
  rw [lt_irr] at HAA
  generalize ltI a b = p at *
  generalize ltI b a = q at *
  generalize ltI b c = r at *
  generalize ltI a c = s at *
  obtain ⟨a0, a1, a2⟩ := a
  obtain ⟨b0, b1, b2⟩ := b
  obtain ⟨c0, c1, c2⟩ := c
  generalize eqI ⟨a0, a1, a2⟩ ⟨b0, b1, b2⟩ = eq at *
  simp only [GId.val] at *
  have hL : Below w.heap.size w (((w.alloc (.cells #[.int .i64 a0, .int .i64 a1, .int .i64 a2] 23)).alloc (.cells #[.int .i64 b0, .int .i64 b1, .int .i64 b2] 23)).alloc (.cells #[.int .i64 c0, .int .i64 c1, .int .i64 c2] 23)) := belt (belt (belt (Below.refl _ w) _) _) _
  have hA : IB (((w.alloc (.cells #[.int .i64 a0, .int .i64 a1, .int .i64 a2] 23)).alloc (.cells #[.int .i64 b0, .int .i64 b1, .int .i64 b2] 23)).alloc (.cells #[.int .i64 c0, .int .i64 c1, .int .i64 c2] 23)) w.heap.size ⟨a0, a1, a2⟩ := (IB.new w ⟨a0, a1, a2⟩).next (belt (belt (Below.refl _ _) _) _)
  have hB : IB (((w.alloc (.cells #[.int .i64 a0, .int .i64 a1, .int .i64 a2] 23)).alloc (.cells #[.int .i64 b0, .int .i64 b1, .int .i64 b2] 23)).alloc (.cells #[.int .i64 c0, .int .i64 c1, .int .i64 c2] 23)) (w.heap.size + 1) ⟨b0, b1, b2⟩ := by
    have h := (IB.new (w.alloc (.cells #[.int .i64 a0, .int .i64 a1, .int .i64 a2] 23)) ⟨b0, b1, b2⟩).next (belt (Below.refl _ _) (.cells #[.int .i64 c0, .int .i64 c1, .int .i64 c2] 23))
    simpa using h
  have hC : IB (((w.alloc (.cells #[.int .i64 a0, .int .i64 a1, .int .i64 a2] 23)).alloc (.cells #[.int .i64 b0, .int .i64 b1, .int .i64 b2] 23)).alloc (.cells #[.int .i64 c0, .int .i64 c1, .int .i64 c2] 23)) (w.heap.size + 1 + 1) ⟨c0, c1, c2⟩ := by
    have h := IB.new ((w.alloc (.cells #[.int .i64 a0, .int .i64 a1, .int .i64 a2] 23)).alloc (.cells #[.int .i64 b0, .int .i64 b1, .int .i64 b2] 23)) ⟨c0, c1, c2⟩
    simpa using h
  go_enter Try.func7, Try.ntmps7
  go_upto_region 1 with fail
  have hS : Below w.heap.size w (((w.alloc (.cells #[.int .i64 a0, .int .i64 a1, .int .i64 a2] 23)).alloc (.cells #[.int .i64 b0, .int .i64 b1, .int .i64 b2] 23)).alloc (.cells #[.int .i64 c0, .int .i64 c1, .int .i64 c2] 23)).drew ∧ IB (((w.alloc (.cells #[.int .i64 a0, .int .i64 a1, .int .i64 a2] 23)).alloc (.cells #[.int .i64 b0, .int .i64 b1, .int .i64 b2] 23)).alloc (.cells #[.int .i64 c0, .int .i64 c1, .int .i64 c2] 23)).drew w.heap.size ⟨a0, a1, a2⟩ ∧ IB (((w.alloc (.cells #[.int .i64 a0, .int .i64 a1, .int .i64 a2] 23)).alloc (.cells #[.int .i64 b0, .int .i64 b1, .int .i64 b2] 23)).alloc (.cells #[.int .i64 c0, .int .i64 c1, .int .i64 c2] 23)).drew (w.heap.size + 1) ⟨b0, b1, b2⟩ ∧ IB (((w.alloc (.cells #[.int .i64 a0, .int .i64 a1, .int .i64 a2] 23)).alloc (.cells #[.int .i64 b0, .int .i64 b1, .int .i64 b2] 23)).alloc (.cells #[.int .i64 c0, .int .i64 c1, .int .i64 c2] 23)).drew (w.heap.size + 1 + 1) ⟨c0, c1, c2⟩ := ⟨hL.drew, hA, hB, hC⟩
  clear hL hA hB hC
  rcases eq with _ | _
  · have hpq : (p == q) = false := by rw [HAN.out rfl]; cases q <;> rfl
    refine wp_region_growS (S := fun W => Below w.heap.size w W ∧ IB W w.heap.size ⟨a0, a1, a2⟩ ∧ IB W (w.heap.size + 1) ⟨b0, b1, b2⟩ ∧ IB W (w.heap.size + 1 + 1) ⟨c0, c1, c2⟩) [(0, true), (1, true), (2, false), (3, true), (4, true), (5, true), (6, true), (7, true), (8, true), (9, true), (11, true), (12, true), (10, false), (13, false), (14, true), (15, true), (16, true)] (by kernel_rfl) (by kernel_rfl) (by kernel_rfl) (by kernel_rfl) (by intro c a d v w h; cases d <;> exact h) hS ?_
    iterate 2
      (first
        | (refine wpGrowS_float (v := ?_) (by simp only [List.getElem?_toArray, List.getElem?_cons_succ, List.getElem?_cons_zero]; rfl) (by rfl) ?_ ?_
           rotate_left
           · (intro W hW; obtain ⟨x0, x1, x2⟩ := IB.cells (hW.2.1); obtain ⟨y0, y1, y2⟩ := IB.cells (hW.2.2.1); obtain ⟨z0, z1, z2⟩ := IB.cells (hW.2.2.2); have eql := fun W => HEQ.out W; (try simp only at *); go_simp; try with_reducible rfl)
           simp only [Act.put, List.setIfInBounds_toArray, List.set_cons_zero, List.set_cons_succ])
        | (refine wpGrowS_skip (by simp only [List.getElem?_toArray, List.getElem?_cons_succ, List.getElem?_cons_zero]; rfl) (by rfl) ?_
           simp only [Act.put, List.setIfInBounds_toArray, List.set_cons_zero, List.set_cons_succ]))
    refine wpGrowS_call (by simp only [List.getElem?_toArray, List.getElem?_cons_succ, List.getElem?_cons_zero]; rfl) (by rfl) fun K hK => ?_
    go_simp
    go_fit (HAA.out _)
    rintro e wn ⟨rfl, hbn⟩
    have hSp := hS
    have hS : Below w.heap.size w wn ∧ IB wn w.heap.size ⟨a0, a1, a2⟩ ∧ IB wn (w.heap.size + 1) ⟨b0, b1, b2⟩ ∧ IB wn (w.heap.size + 1 + 1) ⟨c0, c1, c2⟩ := ⟨beln (hS.1) hbn, IB.next (hS.2.1) hbn, IB.next (hS.2.2.1) hbn, IB.next (hS.2.2.2) hbn⟩
    go_simp
    refine hK _ _ hS ?_
    clear hK K
    try simp only [Act.put, List.setIfInBounds_toArray, List.set_cons_zero, List.set_cons_succ]
    iterate 9
      (first
        | (refine wpGrowS_float (v := ?_) (by simp only [List.getElem?_toArray, List.getElem?_cons_succ, List.getElem?_cons_zero]; rfl) (by rfl) ?_ ?_
           rotate_left
           · (intro W hW; obtain ⟨x0, x1, x2⟩ := IB.cells (hW.2.1); obtain ⟨y0, y1, y2⟩ := IB.cells (hW.2.2.1); obtain ⟨z0, z1, z2⟩ := IB.cells (hW.2.2.2); have eql := fun W => HEQ.out W; (try simp only at *); go_simp; try with_reducible rfl)
           simp only [Act.put, List.setIfInBounds_toArray, List.set_cons_zero, List.set_cons_succ])
        | (refine wpGrowS_skip (by simp only [List.getElem?_toArray, List.getElem?_cons_succ, List.getElem?_cons_zero]; rfl) (by rfl) ?_
           simp only [Act.put, List.setIfInBounds_toArray, List.set_cons_zero, List.set_cons_succ]))
    refine wpGrowS_call (by simp only [List.getElem?_toArray, List.getElem?_cons_succ, List.getElem?_cons_zero]; rfl) (by rfl) fun K hK => ?_
    go_simp
    go_fit (HAB.out _)
    rintro e wn ⟨rfl, hbn⟩
    have hSp := hS
    have hS : Below w.heap.size w wn ∧ IB wn w.heap.size ⟨a0, a1, a2⟩ ∧ IB wn (w.heap.size + 1) ⟨b0, b1, b2⟩ ∧ IB wn (w.heap.size + 1 + 1) ⟨c0, c1, c2⟩ := ⟨beln (hS.1) hbn, IB.next (hS.2.1) hbn, IB.next (hS.2.2.1) hbn, IB.next (hS.2.2.2) hbn⟩
    go_simp
    refine hK _ _ hS ?_
    clear hK K
    try simp only [Act.put, List.setIfInBounds_toArray, List.set_cons_zero, List.set_cons_succ]
    refine wpGrowS_call (by simp only [List.getElem?_toArray, List.getElem?_cons_succ, List.getElem?_cons_zero]; rfl) (by rfl) fun K hK => ?_
    go_simp
    go_fit (HBA.out _)
    rintro e wn ⟨rfl, hbn⟩
    have hSp := hS
    have hS : Below w.heap.size w wn ∧ IB wn w.heap.size ⟨a0, a1, a2⟩ ∧ IB wn (w.heap.size + 1) ⟨b0, b1, b2⟩ ∧ IB wn (w.heap.size + 1 + 1) ⟨c0, c1, c2⟩ := ⟨beln (hS.1) hbn, IB.next (hS.2.1) hbn, IB.next (hS.2.2.1) hbn, IB.next (hS.2.2.2) hbn⟩
    go_simp
    refine hK _ _ hS ?_
    clear hK K
    try simp only [Act.put, List.setIfInBounds_toArray, List.set_cons_zero, List.set_cons_succ]
    iterate 3
      (first
        | (refine wpGrowS_float (v := ?_) (by simp only [List.getElem?_toArray, List.getElem?_cons_succ, List.getElem?_cons_zero]; rfl) (by rfl) ?_ ?_
           rotate_left
           · (intro W hW; obtain ⟨x0, x1, x2⟩ := IB.cells (hW.2.1); obtain ⟨y0, y1, y2⟩ := IB.cells (hW.2.2.1); obtain ⟨z0, z1, z2⟩ := IB.cells (hW.2.2.2); have eql := fun W => HEQ.out W; (try simp only at *); go_simp; try with_reducible rfl)
           simp only [Act.put, List.setIfInBounds_toArray, List.set_cons_zero, List.set_cons_succ])
        | (refine wpGrowS_skip (by simp only [List.getElem?_toArray, List.getElem?_cons_succ, List.getElem?_cons_zero]; rfl) (by rfl) ?_
           simp only [Act.put, List.setIfInBounds_toArray, List.set_cons_zero, List.set_cons_succ]))
    refine wpGrowS_nil ?_
    have HL4 := Lib.hid hS.1
    have HA4 := Lib.hid hS.2.1
    have HB4 := Lib.hid hS.2.2.1
    have HC4 := Lib.hid hS.2.2.2
    clear hS
    obtain ⟨x0, x1, x2⟩ := HA4.out.cells
    obtain ⟨y0, y1, y2⟩ := HB4.out.cells
    obtain ⟨z0, z1, z2⟩ := HC4.out.cells
    try simp only at x0 x1 x2 y0 y1 y2 z0 z1 z2
    go_wp2_with fail
    go_fit (HAB.out _)
    rintro e w5 ⟨rfl, hb5⟩
    clear x0 x1 x2 y0 y1 y2 z0 z1 z2
    have HA5 := Lib.hid (HA4.out.next hb5)
    have HB5 := Lib.hid (HB4.out.next hb5)
    have HC5 := Lib.hid (HC4.out.next hb5)
    have HL5 := Lib.hid (beln HL4.out hb5)
    clear hb5 HA4 HB4 HC4 HL4
    rcases p with _ | _
    · go_wp2_with fail
      go_fit (HAW.out w5)
      rintro e w6 ⟨rfl, hb6⟩
      have HL6 := Lib.hid (beln HL5.out hb6)
      clear hb6
      go_wp2
      go_ret
      exact ⟨rfl, HL6.out⟩
    obtain ⟨x0, x1, x2⟩ := HA5.out.cells
    obtain ⟨y0, y1, y2⟩ := HB5.out.cells
    obtain ⟨z0, z1, z2⟩ := HC5.out.cells
    try simp only at x0 x1 x2 y0 y1 y2 z0 z1 z2
    go_wp2_with fail
    go_fit (HBC.out _)
    rintro e w6 ⟨rfl, hb6⟩
    clear x0 x1 x2 y0 y1 y2 z0 z1 z2
    have HA6 := Lib.hid (HA5.out.next hb6)
    have HB6 := Lib.hid (HB5.out.next hb6)
    have HC6 := Lib.hid (HC5.out.next hb6)
    have HL6 := Lib.hid (beln HL5.out hb6)
    clear hb6 HA5 HB5 HC5 HL5
    rcases r with _ | _
    · go_wp2_with fail
      go_fit (HAW.out w6)
      rintro e w7 ⟨rfl, hb7⟩
      have HL7 := Lib.hid (beln HL6.out hb7)
      clear hb7
      go_wp2
      go_ret
      exact ⟨rfl, HL7.out⟩
    obtain rfl : s = true := HTR.out (by first | exact rfl | trivial) (by first | exact rfl | trivial)
    obtain ⟨x0, x1, x2⟩ := HA6.out.cells
    obtain ⟨y0, y1, y2⟩ := HB6.out.cells
    obtain ⟨z0, z1, z2⟩ := HC6.out.cells
    try simp only at x0 x1 x2 y0 y1 y2 z0 z1 z2
    go_wp2_with fail
    go_fit (HAC.out _)
    rintro e w7 ⟨rfl, hb7⟩
    clear x0 x1 x2 y0 y1 y2 z0 z1 z2
    have HA7 := Lib.hid (HA6.out.next hb7)
    have HB7 := Lib.hid (HB6.out.next hb7)
    have HC7 := Lib.hid (HC6.out.next hb7)
    have HL7 := Lib.hid (beln HL6.out hb7)
    clear hb7 HA6 HB6 HC6 HL6
    go_wp2_with fail
    go_fit (HAW.out w7)
    rintro e w8 ⟨rfl, hb8⟩
    have HL8 := Lib.hid (beln HL7.out hb8)
    clear hb8
    go_wp2
    go_ret
    exact ⟨rfl, HL8.out⟩
  · refine wp_region_growS (S := fun W => Below w.heap.size w W ∧ IB W w.heap.size ⟨a0, a1, a2⟩ ∧ IB W (w.heap.size + 1) ⟨b0, b1, b2⟩ ∧ IB W (w.heap.size + 1 + 1) ⟨c0, c1, c2⟩) [(0, true), (1, true), (2, false), (3, true), (4, true), (5, true), (6, true), (7, true), (8, true), (9, true), (11, true), (12, true), (10, false), (13, false), (14, true), (15, true), (16, true)] (by kernel_rfl) (by kernel_rfl) (by kernel_rfl) (by kernel_rfl) (by intro c a d v w h; cases d <;> exact h) hS ?_
    iterate 2
      (first
        | (refine wpGrowS_float (v := ?_) (by simp only [List.getElem?_toArray, List.getElem?_cons_succ, List.getElem?_cons_zero]; rfl) (by rfl) ?_ ?_
           rotate_left
           · (intro W hW; obtain ⟨x0, x1, x2⟩ := IB.cells (hW.2.1); obtain ⟨y0, y1, y2⟩ := IB.cells (hW.2.2.1); obtain ⟨z0, z1, z2⟩ := IB.cells (hW.2.2.2); have eql := fun W => HEQ.out W; (try simp only at *); go_simp; try with_reducible rfl)
           simp only [Act.put, List.setIfInBounds_toArray, List.set_cons_zero, List.set_cons_succ])
        | (refine wpGrowS_skip (by simp only [List.getElem?_toArray, List.getElem?_cons_succ, List.getElem?_cons_zero]; rfl) (by rfl) ?_
           simp only [Act.put, List.setIfInBounds_toArray, List.set_cons_zero, List.set_cons_succ]))
    refine wpGrowS_call (by simp only [List.getElem?_toArray, List.getElem?_cons_succ, List.getElem?_cons_zero]; rfl) (by rfl) fun K hK => ?_
    go_simp
    go_fit (HAA.out _)
    rintro e wn ⟨rfl, hbn⟩
    have hSp := hS
    have hS : Below w.heap.size w wn ∧ IB wn w.heap.size ⟨a0, a1, a2⟩ ∧ IB wn (w.heap.size + 1) ⟨b0, b1, b2⟩ ∧ IB wn (w.heap.size + 1 + 1) ⟨c0, c1, c2⟩ := ⟨beln (hS.1) hbn, IB.next (hS.2.1) hbn, IB.next (hS.2.2.1) hbn, IB.next (hS.2.2.2) hbn⟩
    go_simp
    refine hK _ _ hS ?_
    clear hK K
    try simp only [Act.put, List.setIfInBounds_toArray, List.set_cons_zero, List.set_cons_succ]
    iterate 9
      (first
        | (refine wpGrowS_float (v := ?_) (by simp only [List.getElem?_toArray, List.getElem?_cons_succ, List.getElem?_cons_zero]; rfl) (by rfl) ?_ ?_
           rotate_left
           · (intro W hW; obtain ⟨x0, x1, x2⟩ := IB.cells (hW.2.1); obtain ⟨y0, y1, y2⟩ := IB.cells (hW.2.2.1); obtain ⟨z0, z1, z2⟩ := IB.cells (hW.2.2.2); have eql := fun W => HEQ.out W; (try simp only at *); go_simp; try with_reducible rfl)
           simp only [Act.put, List.setIfInBounds_toArray, List.set_cons_zero, List.set_cons_succ])
        | (refine wpGrowS_skip (by simp only [List.getElem?_toArray, List.getElem?_cons_succ, List.getElem?_cons_zero]; rfl) (by rfl) ?_
           simp only [Act.put, List.setIfInBounds_toArray, List.set_cons_zero, List.set_cons_succ]))
    refine wpGrowS_pass hS (by simp only [List.getElem?_toArray, List.getElem?_cons_succ, List.getElem?_cons_zero]; rfl) (by rfl) ?_
    try simp only [Act.put, List.setIfInBounds_toArray, List.set_cons_zero, List.set_cons_succ]
    refine wpGrowS_pass hS (by simp only [List.getElem?_toArray, List.getElem?_cons_succ, List.getElem?_cons_zero]; rfl) (by rfl) ?_
    try simp only [Act.put, List.setIfInBounds_toArray, List.set_cons_zero, List.set_cons_succ]
    iterate 3
      (first
        | (refine wpGrowS_float (v := ?_) (by simp only [List.getElem?_toArray, List.getElem?_cons_succ, List.getElem?_cons_zero]; rfl) (by rfl) ?_ ?_
           rotate_left
           · (intro W hW; obtain ⟨x0, x1, x2⟩ := IB.cells (hW.2.1); obtain ⟨y0, y1, y2⟩ := IB.cells (hW.2.2.1); obtain ⟨z0, z1, z2⟩ := IB.cells (hW.2.2.2); have eql := fun W => HEQ.out W; (try simp only at *); go_simp; try with_reducible rfl)
           simp only [Act.put, List.setIfInBounds_toArray, List.set_cons_zero, List.set_cons_succ])
        | (refine wpGrowS_skip (by simp only [List.getElem?_toArray, List.getElem?_cons_succ, List.getElem?_cons_zero]; rfl) (by rfl) ?_
           simp only [Act.put, List.setIfInBounds_toArray, List.set_cons_zero, List.set_cons_succ]))
    refine wpGrowS_nil ?_
    have HL4 := Lib.hid hS.1
    have HA4 := Lib.hid hS.2.1
    have HB4 := Lib.hid hS.2.2.1
    have HC4 := Lib.hid hS.2.2.2
    clear hS
    obtain ⟨x0, x1, x2⟩ := HA4.out.cells
    obtain ⟨y0, y1, y2⟩ := HB4.out.cells
    obtain ⟨z0, z1, z2⟩ := HC4.out.cells
    try simp only at x0 x1 x2 y0 y1 y2 z0 z1 z2
    go_wp2_with fail
    go_fit (HAB.out _)
    rintro e w5 ⟨rfl, hb5⟩
    clear x0 x1 x2 y0 y1 y2 z0 z1 z2
    have HA5 := Lib.hid (HA4.out.next hb5)
    have HB5 := Lib.hid (HB4.out.next hb5)
    have HC5 := Lib.hid (HC4.out.next hb5)
    have HL5 := Lib.hid (beln HL4.out hb5)
    clear hb5 HA4 HB4 HC4 HL4
    rcases p with _ | _
    · go_wp2_with fail
      go_fit (HAW.out w5)
      rintro e w6 ⟨rfl, hb6⟩
      have HL6 := Lib.hid (beln HL5.out hb6)
      clear hb6
      go_wp2
      go_ret
      exact ⟨rfl, HL6.out⟩
    obtain ⟨x0, x1, x2⟩ := HA5.out.cells
    obtain ⟨y0, y1, y2⟩ := HB5.out.cells
    obtain ⟨z0, z1, z2⟩ := HC5.out.cells
    try simp only at x0 x1 x2 y0 y1 y2 z0 z1 z2
    go_wp2_with fail
    go_fit (HBC.out _)
    rintro e w6 ⟨rfl, hb6⟩
    clear x0 x1 x2 y0 y1 y2 z0 z1 z2
    have HA6 := Lib.hid (HA5.out.next hb6)
    have HB6 := Lib.hid (HB5.out.next hb6)
    have HC6 := Lib.hid (HC5.out.next hb6)
    have HL6 := Lib.hid (beln HL5.out hb6)
    clear hb6 HA5 HB5 HC5 HL5
    rcases r with _ | _
    · go_wp2_with fail
      go_fit (HAW.out w6)
      rintro e w7 ⟨rfl, hb7⟩
      have HL7 := Lib.hid (beln HL6.out hb7)
      clear hb7
      go_wp2
      go_ret
      exact ⟨rfl, HL7.out⟩
    obtain rfl : s = true := HTR.out (by first | exact rfl | trivial) (by first | exact rfl | trivial)
    obtain ⟨x0, x1, x2⟩ := HA6.out.cells
    obtain ⟨y0, y1, y2⟩ := HB6.out.cells
    obtain ⟨z0, z1, z2⟩ := HC6.out.cells
    try simp only at x0 x1 x2 y0 y1 y2 z0 z1 z2
    go_wp2_with fail
    go_fit (HAC.out _)
    rintro e w7 ⟨rfl, hb7⟩
    clear x0 x1 x2 y0 y1 y2 z0 z1 z2
    have HA7 := Lib.hid (HA6.out.next hb7)
    have HB7 := Lib.hid (HB6.out.next hb7)
    have HC7 := Lib.hid (HC6.out.next hb7)
    have HL7 := Lib.hid (beln HL6.out hb7)
    clear hb7 HA6 HB6 HC6 HL6
    go_wp2_with fail
    go_fit (HAW.out w7)
    rintro e w8 ⟨rfl, hb8⟩
    have HL8 := Lib.hid (beln HL7.out hb8)
    clear hb8
    go_wp2
    go_ret
    exact ⟨rfl, HL8.out⟩
end Go.Proofs.Ytnoegjfokceghaa
