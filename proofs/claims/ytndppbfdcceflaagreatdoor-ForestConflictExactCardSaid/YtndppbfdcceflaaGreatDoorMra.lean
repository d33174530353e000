/-
  The program's functions on one or two ranges; the table that they lean on.
  Conditions: none.
-/
import Derived.Test.YtndppbfdcceflaaGreatDoorRgk
import Derived.Test.YtndppbfdcceflaaGreatDoorRgn
import Derived.Shelf.Spec.TrailingZeros
namespace Go.Proofs.YtndppbfdcceflaaGreatDoor

open Go.RowKit

/-- The table of math/bits lies where the program's text lays it. -/
def T10 (w : World) : Prop := TabAt 1 Lib.deBruijn64tab w
theorem T10.lt {w : World} (h : T10 w) : 1 < w.heap.size := by
  have := World.block_lt_of_cell? w _ ((h 0 (by decide)).trans rfl)
  simpa using this
theorem T10.next {w w' : World} (h : T10 w) (hb : Below w.heap.size w w') : T10 w' := fun j hj => (hb.cell (p := ⟨1, j, none⟩) h.lt).trans (h j hj)
set_option maxRecDepth 20000 in
theorem pValid_any (r : GR) (w : World) : Calls Tryz.prog 111 #[r.val] w fun e w' => e = .returned (.bool (vR r)) ∧ Below w.heap.size w w' := by
  by_cases h1 : r.bits < 6
  · have HR : Hid (vR r = false) := Lib.hid (vR_not.2 fun h => by have := h.lo; omega)
    generalize vR r = q at *
    obtain ⟨b, n⟩ := r
    simp only at h1
    unfold GR.val
    go_enter Tryz.func111, Tryz.ntmps111
    go_wp2
    go_ret
    exact ⟨congrArg (fun b => Ending.returned (Value.bool b)) HR.out.symm, (Below.refl _ _).alloc (Nat.le_refl _) _⟩
  by_cases h2 : 40 < r.bits
  · have HR : Hid (vR r = false) := Lib.hid (vR_not.2 fun h => by have := h.hi; omega)
    generalize vR r = q at *
    obtain ⟨b, n⟩ := r
    simp only at h1 h2
    unfold GR.val
    go_enter Tryz.func111, Tryz.ntmps111
    go_wp2
    go_ret
    exact ⟨congrArg (fun b => Ending.returned (Value.bool b)) HR.out.symm, (Below.refl _ _).alloc (Nat.le_refl _) _⟩
  have hsz := sz_pos r
  have hsl : r.sz ≤ 1099511627776 := by have h9 : r.sz ≤ pw 40 := pw_le (by omega) (by omega); have : pw 40 = 1099511627776 := by decide
                                        omega
  have hsh : IntKind.i64.wrap (2 ^ r.bits.toNat) = r.sz := shl_one (by omega) (by omega)
  by_cases h3 : r.base < 0
  · have HR : Hid (vR r = false) := Lib.hid (vR_not.2 fun h => by have := h.b0; omega)
    generalize vR r = q at *
    generalize r.sz = z at *
    obtain ⟨b, n⟩ := r
    simp only at h1 h2 h3 hsh
    unfold GR.val
    go_enter Tryz.func111, Tryz.ntmps111
    go_wp2
    go_ret
    exact ⟨congrArg (fun b => Ending.returned (Value.bool b)) HR.out.symm, (Below.refl _ _).alloc (Nat.le_refl _) _⟩
  have HR : Hid (vR r = (decide (r.base % r.sz = 0) && decide (r.base ≤ 1099511627776 - r.sz))) := Lib.hid (by
    rw [Bool.eq_iff_iff, vR_iff, Bool.and_eq_true, decide_eq_true_eq, decide_eq_true_eq]
    exact ⟨fun h => ⟨h.al, by have := h.top; omega⟩, fun h => ⟨by omega, by omega, by omega, h.1, by omega⟩⟩)
  generalize vR r = q at *
  generalize r.sz = z at *
  obtain ⟨b, n⟩ := r
  simp only at h1 h2 h3 HR hsh
  unfold GR.val
  go_enter Tryz.func111, Tryz.ntmps111
  go_wp2
  all_goals
    go_ret
    exact ⟨congrArg (fun b => Ending.returned (Value.bool b)) (by rw [HR.out]; simp [*]), (Below.refl _ _).alloc (Nat.le_refl _) _⟩
set_option maxRecDepth 20000 in
theorem pEnd_any (r : GR) (w : World) : Calls Tryz.prog 114 #[r.val] w fun e w' => e = .returned (.int .i64 (endR r)) ∧ Below w.heap.size w w' := by
  have HV := Lib.hid fun W => pValid_any r W
  by_cases h : VR r
  · have HR : Hid (endR r = r.base + r.sz) := Lib.hid h.endR
    rw [vR_iff.2 h] at HV
    have hsz := sz_pos r
    have h1 := h.lo
    have h2 := h.hi
    have h3 := h.b0
    have h4 := h.top
    have hsh : IntKind.i64.wrap (2 ^ r.bits.toNat) = r.sz := shl_one (by omega) (by omega)
    generalize endR r = q at *
    generalize r.sz = z at *
    clear h
    obtain ⟨b, n⟩ := r
    simp only at h1 h2 h3 h4 HR hsh
    unfold GR.val at *
    go_enter Tryz.func114, Tryz.ntmps114
    go_wp2_with fail
    go_fit (HV.out _)
    rintro e w1 ⟨rfl, hb1⟩
    have HB1 := Lib.hid (bela (Below.refl _ w) hb1)
    have c0 : w1.cell? ⟨w.heap.size, 0, none⟩ = some (.int .i64 b) := (hb1.cell (p := ⟨w.heap.size, 0, none⟩) (by simp)).trans (by rw [Lib.cell_of_heap (heap_alloc_new w _)]; rfl)
    have c1 : w1.cell? ⟨w.heap.size, 1, none⟩ = some (.int .i64 n) := (hb1.cell (p := ⟨w.heap.size, 1, none⟩) (by simp)).trans (by rw [Lib.cell_of_heap (heap_alloc_new w _)]; rfl)
    clear hb1 HV
    have fneg : decide (n < 0) = false := by simp; omega
    have hwz : IntKind.i64.wrap (b + z) = b + z := IntWalk.i64_in _ (by omega)
    go_upto_region 3 with fail
    refine wp_region_still_lit (by kernel_rfl) (by kernel_rfl) ?_
    repeat still_step
    refine wpStill_nil ?_
    change Exit.then _ _ Exit.normal _ w1.drew
    have HB1 := Lib.hid HB1.out.drew
    go_wp2
    go_ret
    exact ⟨congrArg (fun x => Ending.returned (Value.int .i64 x)) HR.out.symm, HB1.out⟩
  · have HR : Hid (endR r = 0) := Lib.hid (by unfold endR; rw [vR_not.2 h]; rfl)
    rw [vR_not.2 h] at HV
    generalize endR r = q at *
    obtain ⟨b, n⟩ := r
    unfold GR.val at *
    clear h
    go_enter Tryz.func114, Tryz.ntmps114
    go_wp2_with fail
    go_fit (HV.out _)
    rintro e w1 ⟨rfl, hb1⟩
    have HB1 := Lib.hid (bela (Below.refl _ w) hb1)
    clear hb1 HV
    go_wp2
    go_ret
    exact ⟨congrArg (fun x => Ending.returned (Value.int .i64 x)) HR.out.symm, HB1.out⟩
set_option maxRecDepth 20000 in
set_option maxHeartbeats 1000000 in
theorem pCon_any (a b : GR) (w : World) : Calls Tryz.prog 109 #[a.val, b.val] w fun e w' => e = .returned (.bool (conR a b)) ∧ Below w.heap.size w w' := by
  have HVA := Lib.hid fun W => pValid_any a W
  have HVB := Lib.hid fun W => pValid_any b W
  have HEA := Lib.hid fun W => pEnd_any a W
  have HEB := Lib.hid fun W => pEnd_any b W
  have HR : Hid (conR a b = (vR a && vR b && decide (a.base ≤ b.base) && decide (endR b ≤ endR a))) := Lib.hid rfl
  have HT := Lib.hid (Two.mk w a b 58)
  have HKS := Lib.hid fun W W' h hb => Two.next (w0 := w) (N := w.heap.size) (a := a) (b := b) (W := W) (W' := W') h hb
  generalize conR a b = q at *
  generalize endR a = ea at *
  generalize endR b = eb at *
  obtain ⟨ab, an⟩ := a
  obtain ⟨bb, bn⟩ := b
  simp only [GR.val] at *
  generalize vR ⟨ab, an⟩ = va at *
  generalize vR ⟨bb, bn⟩ = vb at *
  rcases va with _ | _
  rotate_left
  rcases vb with _ | _
  rotate_left
  rcases hle : decide (ab ≤ bb) with _ | _
  all_goals
    go_enter Tryz.func109, Tryz.ntmps109
    go_upto_region 1 with fail
    have hT0 := HKS.out _ _ HT.out (Below.refl _ _).drew
    refine wp_region_grow [(0, true), (1, false), (2, true), (3, true), (4, false), (5, true), (6, true), (7, true), (8, true), (9, true), (10, true), (11, true), (12, true), (13, true), (14, true), (16, true), (15, false), (17, false), (18, true), (19, true), (20, true)] (by kernel_rfl) (by kernel_rfl) (by kernel_rfl) (by kernel_rfl) (by intro c a d v w h; cases d <;> exact h) ?_
    repeat (first
      | (refine wpGrow_float (v := ?_) (by simp only [List.getElem?_toArray, List.getElem?_cons_succ, List.getElem?_cons_zero]; rfl) (by rfl) ?_ ?_
         rotate_left
         · (intro W hW; obtain ⟨_, _, u0, u1, u2, u3⟩ := HKS.out _ _ (by assumption) hW; go_simp; try with_reducible rfl)
         simp only [Act.put, List.setIfInBounds_toArray, List.set_cons_zero, List.set_cons_succ])
      | (refine wpGrow_skip (by simp only [List.getElem?_toArray, List.getElem?_cons_succ, List.getElem?_cons_zero]; rfl) (by rfl) ?_
         simp only [Act.put, List.setIfInBounds_toArray, List.set_cons_zero, List.set_cons_succ])
      | (refine wpGrow_pass (by simp only [List.getElem?_toArray, List.getElem?_cons_succ, List.getElem?_cons_zero]; rfl) (by rfl) ?_
         simp only [Act.put, List.setIfInBounds_toArray, List.set_cons_zero, List.set_cons_succ])
      | (refine wpGrow_call (by simp only [List.getElem?_toArray, List.getElem?_cons_succ, List.getElem?_cons_zero]; rfl) (by rfl) fun K hK => ?_
         go_simp
         go_fit (HVA.out _)
         rintro e w1 ⟨rfl, hbn⟩
         have hSn := HKS.out _ _ (by assumption) hbn
         go_simp
         refine hK _ _ hbn ?_
         clear hK K)
      | (refine wpGrow_call (by simp only [List.getElem?_toArray, List.getElem?_cons_succ, List.getElem?_cons_zero]; rfl) (by rfl) fun K hK => ?_
         go_simp
         go_fit (HVB.out _)
         rintro e w1 ⟨rfl, hbn⟩
         have hSn := HKS.out _ _ (by assumption) hbn
         go_simp
         refine hK _ _ hbn ?_
         clear hK K)
      | (refine wpGrow_call (by simp only [List.getElem?_toArray, List.getElem?_cons_succ, List.getElem?_cons_zero]; rfl) (by rfl) fun K hK => ?_
         go_simp
         go_fit (HEA.out _)
         rintro e w1 ⟨rfl, hbn⟩
         have hSn := HKS.out _ _ (by assumption) hbn
         go_simp
         refine hK _ _ hbn ?_
         clear hK K)
      | (refine wpGrow_call (by simp only [List.getElem?_toArray, List.getElem?_cons_succ, List.getElem?_cons_zero]; rfl) (by rfl) fun K hK => ?_
         go_simp
         go_fit (HEB.out _)
         rintro e w1 ⟨rfl, hbn⟩
         have hSn := HKS.out _ _ (by assumption) hbn
         go_simp
         refine hK _ _ hbn ?_
         clear hK K))
    try refine wpGrow_nil ?_
    have HEND : Hid (Below w.heap.size w _) := Lib.hid hSn.1
    clear HVA HVB HEA HEB HT HKS
    go_wp2
    go_ret
    exact ⟨congrArg (fun b => Ending.returned (Value.bool b)) (by rw [HR.out]; simp [*]), HEND.out⟩
theorem ov_con (a b : GR) : ovR a b = (conR a b || conR b a) := by
  rw [Bool.eq_iff_iff, Bool.or_eq_true]
  constructor
  · intro h
    have h' := ov_iff.1 h
    exact nest' h'.1 h'.2.1 h'.2.2.1 h'.2.2.2
  · rintro (h | h)
    · exact con_ov h
    · rw [ov_comm]; exact con_ov h
set_option maxRecDepth 20000 in
set_option maxHeartbeats 1000000 in
theorem pOv_any (a b : GR) (w : World) : Calls Tryz.prog 79 #[a.val, b.val] w fun e w' => e = .returned (.bool (ovR a b)) ∧ Below w.heap.size w w' := by
  have HCA := Lib.hid fun W => pCon_any a b W
  have HCB := Lib.hid fun W => pCon_any b a W
  have HR : Hid (ovR a b = (conR a b || conR b a)) := Lib.hid (ov_con a b)
  have HT := Lib.hid (Two.mk w a b 58)
  have HKS := Lib.hid fun W W' h hb => Two.next (w0 := w) (N := w.heap.size) (a := a) (b := b) (W := W) (W' := W') h hb
  generalize ovR a b = q at *
  generalize conR a b = ca at *
  generalize conR b a = cb at *
  obtain ⟨ab, an⟩ := a
  obtain ⟨bb, bn⟩ := b
  simp only [GR.val] at *
  rcases ca with _ | _
  · go_enter Tryz.func79, Tryz.ntmps79
    go_wp2_with fail
    go_fit (HCA.out _)
    rintro e w1 ⟨rfl, hb1⟩
    have h1 := HKS.out _ _ HT.out hb1
    have H1 := Lib.hid h1
    obtain ⟨_, _, u0, u1, u2, u3⟩ := h1
    clear hb1 HT HCA
    go_wp2_with fail
    go_fit (HCB.out _)
    rintro e w2 ⟨rfl, hb2⟩
    have HEND := Lib.hid (HKS.out _ _ H1.out hb2).1
    clear hb2 H1 HKS HCB u0 u1 u2 u3
    go_wp2
    go_ret
    exact ⟨congrArg (fun b => Ending.returned (Value.bool b)) (by rw [HR.out]; simp [*]), HEND.out⟩
  · go_enter Tryz.func79, Tryz.ntmps79
    go_wp2_with fail
    go_fit (HCA.out _)
    rintro e w1 ⟨rfl, hb1⟩
    have HEND := Lib.hid (HKS.out _ _ HT.out hb1).1
    clear hb1 HT HCA HCB HKS
    go_wp2
    go_ret
    exact ⟨congrArg (fun b => Ending.returned (Value.bool b)) (by rw [HR.out]; simp [*]), HEND.out⟩
end Go.Proofs.YtndppbfdcceflaaGreatDoor
