/-
  The reference's functions on ranges: what they return.
  Conditions: none.
-/
import Derived.Test.YtndppbfdcceflaaGreatDoorRgd
import Derived.Test.YtndppbfdcceflaaGreatDoorGrow
import Derived.Deep.RegionHeld3
import Derived.Lib.Builder
import Derived.StillTailTactics
import Derived.Deep.DeepCutAuto
import Derived.RegionTactic
import Derived.Deep.RegionLaw
namespace Go.Proofs.YtndppbfdcceflaaGreatDoor

open Go.RowKit

theorem beln {w w1 w2 : World} (h1 : Below w.heap.size w w1) (h2 : Below w1.heap.size w1 w2) : Below w.heap.size w w2 := h1.trans (h2.mono h1.size)
theorem belt {w w1 : World} (h1 : Below w.heap.size w w1) (o : Obj) : Below w.heap.size w (w1.alloc o) := h1.alloc h1.size o
theorem bela {w w1 w2 : World} {o : Obj} (h1 : Below w.heap.size w w1) (h2 : Below (w1.alloc o).heap.size (w1.alloc o) w2) : Below w.heap.size w w2 := beln (belt h1 o) h2
theorem shl_one {n : Int} (h0 : 0 ≤ n) (h1 : n ≤ 62) : IntKind.i64.wrap (2 ^ n.toNat) = pw n := by
  have hp := pw_pos n
  have hl : pw n ≤ pw 62 := pw_le h1 h0
  have h6 : pw 62 = 4611686018427387904 := by decide
  exact IntWalk.i64_in _ (by unfold pw at *; omega)
theorem shl_one64 {n : Int} (h0 : 0 ≤ n) (h1 : n ≤ 62) : wrap64 (2 ^ n.toNat) = pw n := by
  have hp := pw_pos n
  have hl : pw n ≤ pw 62 := pw_le h1 h0
  have h6 : pw 62 = 4611686018427387904 := by decide
  exact IntWalk.wrap64_in _ (by unfold pw at *; omega)
set_option maxRecDepth 20000 in
theorem rValid_any (r : GR) (w : World) : Calls Tryz.prog 91 #[r.val] w fun e w' => e = .returned (.bool (vR r)) ∧ Below w.heap.size w w' := by
  by_cases h1 : r.bits < 6
  · have HR : Hid (vR r = false) := Lib.hid (vR_not.2 fun h => by have := h.lo; omega)
    generalize vR r = q at *
    obtain ⟨b, n⟩ := r
    simp only at h1
    unfold GR.val
    go_enter Tryz.func91, Tryz.ntmps91
    go_wp2
    go_ret
    exact ⟨congrArg (fun b => Ending.returned (Value.bool b)) HR.out.symm, (Below.refl _ _).alloc (Nat.le_refl _) _⟩
  by_cases h2 : 40 < r.bits
  · have HR : Hid (vR r = false) := Lib.hid (vR_not.2 fun h => by have := h.hi; omega)
    generalize vR r = q at *
    obtain ⟨b, n⟩ := r
    simp only at h1 h2
    unfold GR.val
    go_enter Tryz.func91, Tryz.ntmps91
    go_wp2
    go_ret
    exact ⟨congrArg (fun b => Ending.returned (Value.bool b)) HR.out.symm, (Below.refl _ _).alloc (Nat.le_refl _) _⟩
  by_cases h3 : r.base < 0
  · have HR : Hid (vR r = false) := Lib.hid (vR_not.2 fun h => by have := h.b0; omega)
    generalize vR r = q at *
    obtain ⟨b, n⟩ := r
    simp only at h1 h2 h3
    unfold GR.val
    go_enter Tryz.func91, Tryz.ntmps91
    go_wp2
    go_ret
    exact ⟨congrArg (fun b => Ending.returned (Value.bool b)) HR.out.symm, (Below.refl _ _).alloc (Nat.le_refl _) _⟩
  by_cases h4 : 1099511627776 ≤ r.base
  · have HR : Hid (vR r = false) := Lib.hid (vR_not.2 fun h => by have := h.top; have := sz_pos r; omega)
    generalize vR r = q at *
    obtain ⟨b, n⟩ := r
    simp only at h1 h2 h3 h4
    unfold GR.val
    go_enter Tryz.func91, Tryz.ntmps91
    go_wp2
    go_ret
    exact ⟨congrArg (fun b => Ending.returned (Value.bool b)) HR.out.symm, (Below.refl _ _).alloc (Nat.le_refl _) _⟩
  have HR : Hid (vR r = (decide (r.base % r.sz = 0) && decide (r.base + r.sz ≤ 1099511627776))) := Lib.hid (by
    rw [Bool.eq_iff_iff, vR_iff, Bool.and_eq_true, decide_eq_true_eq, decide_eq_true_eq]
    exact ⟨fun h => ⟨h.al, h.top⟩, fun h => ⟨by omega, by omega, by omega, h.1, h.2⟩⟩)
  have hsz := sz_pos r
  have hsl : r.sz ≤ 1099511627776 := by have h9 : r.sz ≤ pw 40 := pw_le (by omega) (by omega); have : pw 40 = 1099511627776 := by decide
                                        omega
  have hsh : IntKind.i64.wrap (2 ^ r.bits.toNat) = r.sz := shl_one (by omega) (by omega)
  generalize vR r = q at *
  generalize r.sz = z at *
  obtain ⟨b, n⟩ := r
  simp only at h1 h2 h3 h4 HR hsh
  unfold GR.val
  go_enter Tryz.func91, Tryz.ntmps91
  go_wp2
  all_goals
    go_ret
    exact ⟨congrArg (fun b => Ending.returned (Value.bool b)) (by rw [HR.out]; simp [*]), (Below.refl _ _).alloc (Nat.le_refl _) _⟩
set_option maxRecDepth 20000 in
theorem rEnd_any (r : GR) (w : World) : Calls Tryz.prog 92 #[r.val] w fun e w' => e = .returned (.int .i64 (endR r)) ∧ Below w.heap.size w w' := by
  have HV := Lib.hid fun W => rValid_any r W
  by_cases h : VR r
  · have HR : Hid (endR r = r.base + r.sz) := Lib.hid h.endR
    rw [vR_iff.2 h] at HV
    have hsz := sz_pos r
    have h1 := h.lo
    have h2 := h.hi
    have h3 := h.b0
    have h4 := h.top
    have hsh : IntKind.i64.wrap (2 ^ r.bits.toNat) = r.sz := shl_one (by omega) (by omega)
    generalize endR r = q at *
    generalize r.sz = z at *
    clear h
    obtain ⟨b, n⟩ := r
    simp only at h1 h2 h3 h4 HR hsh
    unfold GR.val at *
    go_enter Tryz.func92, Tryz.ntmps92
    go_wp2_with fail
    go_fit (HV.out _)
    rintro e w1 ⟨rfl, hb1⟩
    have HB1 := Lib.hid (bela (Below.refl _ w) hb1)
    have c0 : w1.cell? ⟨w.heap.size, 0, none⟩ = some (.int .i64 b) := (hb1.cell (p := ⟨w.heap.size, 0, none⟩) (by simp)).trans (by rw [Lib.cell_of_heap (heap_alloc_new w _)]; rfl)
    have c1 : w1.cell? ⟨w.heap.size, 1, none⟩ = some (.int .i64 n) := (hb1.cell (p := ⟨w.heap.size, 1, none⟩) (by simp)).trans (by rw [Lib.cell_of_heap (heap_alloc_new w _)]; rfl)
    clear hb1 HV
    go_wp2
    go_ret
    exact ⟨congrArg (fun x => Ending.returned (Value.int .i64 x)) HR.out.symm, HB1.out⟩
  · have HR : Hid (endR r = 0) := Lib.hid (by unfold endR; rw [vR_not.2 h]; rfl)
    rw [vR_not.2 h] at HV
    generalize endR r = q at *
    obtain ⟨b, n⟩ := r
    unfold GR.val at *
    clear h
    go_enter Tryz.func92, Tryz.ntmps92
    go_wp2_with fail
    go_fit (HV.out _)
    rintro e w1 ⟨rfl, hb1⟩
    have HB1 := Lib.hid (bela (Below.refl _ w) hb1)
    clear hb1 HV
    go_wp2
    go_ret
    exact ⟨congrArg (fun x => Ending.returned (Value.int .i64 x)) HR.out.symm, HB1.out⟩
/-- Two ranges that lie in blocks N and N + 1. -/
def Two (w0 : World) (N : Nat) (a b : GR) (W : World) : Prop := Below N w0 W ∧ N + 1 < W.heap.size ∧ W.cell? ⟨N, 0, none⟩ = some (.int .i64 a.base) ∧ W.cell? ⟨N, 1, none⟩ = some (.int .i64 a.bits) ∧ W.cell? ⟨N + 1, 0, none⟩ = some (.int .i64 b.base) ∧ W.cell? ⟨N + 1, 1, none⟩ = some (.int .i64 b.bits)
theorem Two.next {w0 : World} {N : Nat} {a b : GR} {W W' : World} (h : Two w0 N a b W) (hb : Below W.heap.size W W') : Two w0 N a b W' := by
  obtain ⟨h0, h1, h2, h3, h4, h5⟩ := h
  have hs := hb.size
  exact ⟨h0.trans (hb.mono (by omega)), by omega, (hb.cell (p := ⟨N, 0, none⟩) (by simp; omega)).trans h2, (hb.cell (p := ⟨N, 1, none⟩) (by simp; omega)).trans h3, (hb.cell (p := ⟨N + 1, 0, none⟩) (by simp; omega)).trans h4, (hb.cell (p := ⟨N + 1, 1, none⟩) (by simp; omega)).trans h5⟩
theorem Two.mk (w : World) (a b : GR) (T : TypeId) : Two w w.heap.size a b ((w.alloc (.cells #[.int .i64 a.base, .int .i64 a.bits] T)).alloc (.cells #[.int .i64 b.base, .int .i64 b.bits] T)) := by
  have e : (w.alloc (.cells #[.int .i64 a.base, .int .i64 a.bits] T)).heap.size = w.heap.size + 1 := by simp
  have hb := Below.heap_alloc (w.alloc (.cells #[.int .i64 a.base, .int .i64 a.bits] T)) (.cells #[.int .i64 b.base, .int .i64 b.bits] T) w.heap.size (by omega)
  have h1 := hb.trans (heap_alloc_new w (.cells #[.int .i64 a.base, .int .i64 a.bits] T))
  have h2 := heap_alloc_new (w.alloc (.cells #[.int .i64 a.base, .int .i64 a.bits] T)) (.cells #[.int .i64 b.base, .int .i64 b.bits] T)
  rw [e] at h2
  exact ⟨belt (belt (Below.refl _ w) _) _, by simp, by rw [Lib.cell_of_heap h1]; rfl, by rw [Lib.cell_of_heap h1]; rfl, by rw [Lib.cell_of_heap h2]; rfl, by rw [Lib.cell_of_heap h2]; rfl⟩
set_option maxRecDepth 20000 in
set_option maxHeartbeats 1000000 in
theorem rCon_any (a b : GR) (w : World) : Calls Tryz.prog 47 #[a.val, b.val] w fun e w' => e = .returned (.bool (conR a b)) ∧ Below w.heap.size w w' := by
  have HVA := Lib.hid fun W => rValid_any a W
  have HVB := Lib.hid fun W => rValid_any b W
  have HEA := Lib.hid fun W => rEnd_any a W
  have HEB := Lib.hid fun W => rEnd_any b W
  have HR : Hid (conR a b = (vR a && vR b && decide (a.base ≤ b.base) && decide (endR b ≤ endR a))) := Lib.hid rfl
  have HT := Lib.hid (Two.mk w a b 58)
  have HKS := Lib.hid fun W W' h hb => Two.next (w0 := w) (N := w.heap.size) (a := a) (b := b) (W := W) (W' := W') h hb
  generalize conR a b = q at *
  generalize endR a = ea at *
  generalize endR b = eb at *
  obtain ⟨ab, an⟩ := a
  obtain ⟨bb, bn⟩ := b
  simp only [GR.val] at *
  generalize vR ⟨ab, an⟩ = va at *
  generalize vR ⟨bb, bn⟩ = vb at *
  rcases va with _ | _
  rotate_left
  rcases vb with _ | _
  rotate_left
  rcases hle : decide (ab ≤ bb) with _ | _
  all_goals
    go_enter Tryz.func47, Tryz.ntmps47
    go_upto_region 1 with fail
    have hT0 := HKS.out _ _ HT.out (Below.refl _ _).drew
    refine wp_region_grow [(0, true), (1, false), (2, true), (3, true), (4, false), (5, true), (6, true), (7, true), (8, true), (9, true), (10, true), (11, true), (12, true), (13, true), (14, true), (16, true), (15, false), (17, false), (18, true), (19, true), (20, true)] (by kernel_rfl) (by kernel_rfl) (by kernel_rfl) (by kernel_rfl) (by intro c a d v w h; cases d <;> exact h) ?_
    repeat (first
      | (refine wpGrow_float (v := ?_) (by simp only [List.getElem?_toArray, List.getElem?_cons_succ, List.getElem?_cons_zero]; rfl) (by rfl) ?_ ?_
         rotate_left
         · (intro W hW; obtain ⟨_, _, u0, u1, u2, u3⟩ := HKS.out _ _ (by assumption) hW; go_simp; try with_reducible rfl)
         simp only [Act.put, List.setIfInBounds_toArray, List.set_cons_zero, List.set_cons_succ])
      | (refine wpGrow_skip (by simp only [List.getElem?_toArray, List.getElem?_cons_succ, List.getElem?_cons_zero]; rfl) (by rfl) ?_
         simp only [Act.put, List.setIfInBounds_toArray, List.set_cons_zero, List.set_cons_succ])
      | (refine wpGrow_pass (by simp only [List.getElem?_toArray, List.getElem?_cons_succ, List.getElem?_cons_zero]; rfl) (by rfl) ?_
         simp only [Act.put, List.setIfInBounds_toArray, List.set_cons_zero, List.set_cons_succ])
      | (refine wpGrow_call (by simp only [List.getElem?_toArray, List.getElem?_cons_succ, List.getElem?_cons_zero]; rfl) (by rfl) fun K hK => ?_
         go_simp
         go_fit (HVA.out _)
         rintro e w1 ⟨rfl, hbn⟩
         have hSn := HKS.out _ _ (by assumption) hbn
         go_simp
         refine hK _ _ hbn ?_
         clear hK K)
      | (refine wpGrow_call (by simp only [List.getElem?_toArray, List.getElem?_cons_succ, List.getElem?_cons_zero]; rfl) (by rfl) fun K hK => ?_
         go_simp
         go_fit (HVB.out _)
         rintro e w1 ⟨rfl, hbn⟩
         have hSn := HKS.out _ _ (by assumption) hbn
         go_simp
         refine hK _ _ hbn ?_
         clear hK K)
      | (refine wpGrow_call (by simp only [List.getElem?_toArray, List.getElem?_cons_succ, List.getElem?_cons_zero]; rfl) (by rfl) fun K hK => ?_
         go_simp
         go_fit (HEA.out _)
         rintro e w1 ⟨rfl, hbn⟩
         have hSn := HKS.out _ _ (by assumption) hbn
         go_simp
         refine hK _ _ hbn ?_
         clear hK K)
      | (refine wpGrow_call (by simp only [List.getElem?_toArray, List.getElem?_cons_succ, List.getElem?_cons_zero]; rfl) (by rfl) fun K hK => ?_
         go_simp
         go_fit (HEB.out _)
         rintro e w1 ⟨rfl, hbn⟩
         have hSn := HKS.out _ _ (by assumption) hbn
         go_simp
         refine hK _ _ hbn ?_
         clear hK K))
    try refine wpGrow_nil ?_
    have HEND : Hid (Below w.heap.size w _) := Lib.hid hSn.1
    clear HVA HVB HEA HEB HT HKS
    go_wp2
    go_ret
    exact ⟨congrArg (fun b => Ending.returned (Value.bool b)) (by rw [HR.out]; simp [*]), HEND.out⟩
set_option maxRecDepth 20000 in
set_option maxHeartbeats 1000000 in
theorem rOv_any (a b : GR) (w : World) : Calls Tryz.prog 83 #[a.val, b.val] w fun e w' => e = .returned (.bool (ovR a b)) ∧ Below w.heap.size w w' := by
  have HVA := Lib.hid fun W => rValid_any a W
  have HVB := Lib.hid fun W => rValid_any b W
  have HEA := Lib.hid fun W => rEnd_any a W
  have HEB := Lib.hid fun W => rEnd_any b W
  have HR : Hid (ovR a b = (vR a && vR b && decide (a.base < endR b) && decide (b.base < endR a))) := Lib.hid rfl
  have HT := Lib.hid (Two.mk w a b 58)
  have HKS := Lib.hid fun W W' h hb => Two.next (w0 := w) (N := w.heap.size) (a := a) (b := b) (W := W) (W' := W') h hb
  generalize ovR a b = q at *
  generalize endR a = ea at *
  generalize endR b = eb at *
  obtain ⟨ab, an⟩ := a
  obtain ⟨bb, bn⟩ := b
  simp only [GR.val] at *
  generalize vR ⟨ab, an⟩ = va at *
  generalize vR ⟨bb, bn⟩ = vb at *
  rcases va with _ | _
  rotate_left
  rcases vb with _ | _
  rotate_left
  rcases hle : decide (ab < eb) with _ | _
  all_goals
    go_enter Tryz.func83, Tryz.ntmps83
    go_upto_region 1 with fail
    have hT0 := HKS.out _ _ HT.out (Below.refl _ _).drew
    refine wp_region_grow [(0, true), (1, false), (2, true), (3, true), (4, false), (5, true), (6, true), (7, true), (8, true), (9, true), (10, false), (11, true), (12, true), (13, true), (14, true), (15, true), (16, true), (17, false), (18, true), (19, true), (20, true)] (by kernel_rfl) (by kernel_rfl) (by kernel_rfl) (by kernel_rfl) (by intro c a d v w h; cases d <;> exact h) ?_
    repeat (first
      | (refine wpGrow_float (v := ?_) (by simp only [List.getElem?_toArray, List.getElem?_cons_succ, List.getElem?_cons_zero]; rfl) (by rfl) ?_ ?_
         rotate_left
         · (intro W hW; obtain ⟨_, _, u0, u1, u2, u3⟩ := HKS.out _ _ (by assumption) hW; go_simp; try with_reducible rfl)
         simp only [Act.put, List.setIfInBounds_toArray, List.set_cons_zero, List.set_cons_succ])
      | (refine wpGrow_skip (by simp only [List.getElem?_toArray, List.getElem?_cons_succ, List.getElem?_cons_zero]; rfl) (by rfl) ?_
         simp only [Act.put, List.setIfInBounds_toArray, List.set_cons_zero, List.set_cons_succ])
      | (refine wpGrow_pass (by simp only [List.getElem?_toArray, List.getElem?_cons_succ, List.getElem?_cons_zero]; rfl) (by rfl) ?_
         simp only [Act.put, List.setIfInBounds_toArray, List.set_cons_zero, List.set_cons_succ])
      | (refine wpGrow_call (by simp only [List.getElem?_toArray, List.getElem?_cons_succ, List.getElem?_cons_zero]; rfl) (by rfl) fun K hK => ?_
         go_simp
         go_fit (HVA.out _)
         rintro e w1 ⟨rfl, hbn⟩
         have hSn := HKS.out _ _ (by assumption) hbn
         go_simp
         refine hK _ _ hbn ?_
         clear hK K)
      | (refine wpGrow_call (by simp only [List.getElem?_toArray, List.getElem?_cons_succ, List.getElem?_cons_zero]; rfl) (by rfl) fun K hK => ?_
         go_simp
         go_fit (HVB.out _)
         rintro e w1 ⟨rfl, hbn⟩
         have hSn := HKS.out _ _ (by assumption) hbn
         go_simp
         refine hK _ _ hbn ?_
         clear hK K)
      | (refine wpGrow_call (by simp only [List.getElem?_toArray, List.getElem?_cons_succ, List.getElem?_cons_zero]; rfl) (by rfl) fun K hK => ?_
         go_simp
         go_fit (HEA.out _)
         rintro e w1 ⟨rfl, hbn⟩
         have hSn := HKS.out _ _ (by assumption) hbn
         go_simp
         refine hK _ _ hbn ?_
         clear hK K)
      | (refine wpGrow_call (by simp only [List.getElem?_toArray, List.getElem?_cons_succ, List.getElem?_cons_zero]; rfl) (by rfl) fun K hK => ?_
         go_simp
         go_fit (HEB.out _)
         rintro e w1 ⟨rfl, hbn⟩
         have hSn := HKS.out _ _ (by assumption) hbn
         go_simp
         refine hK _ _ hbn ?_
         clear hK K))
    try refine wpGrow_nil ?_
    have HEND : Hid (Below w.heap.size w _) := Lib.hid hSn.1
    clear HVA HVB HEA HEB HT HKS
    go_wp2
    go_ret
    exact ⟨congrArg (fun b => Ending.returned (Value.bool b)) (by rw [HR.out]; simp [*]), HEND.out⟩
end Go.Proofs.YtndppbfdcceflaaGreatDoor
