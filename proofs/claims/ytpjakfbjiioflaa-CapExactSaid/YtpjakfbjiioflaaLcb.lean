/-
  The law CapExact returns true.
  Conditions: none.
-/
import Derived.Test.YtpjakfbjiioflaaCah
namespace Go.Proofs.Ytpjakfbjiioflaa

open Go.RowKit

theorem rng_eql (a : GR) (w : World) : (Op.equalIn 10000 26 a.val a.val).run Try.prog w = .ok true w := by
  have u3 := Try.underlying3
  have hS : Try.prog.underlying 26 = some (.struct (Try.prog.fieldsOf 26)) := by kernel_rfl
  have hp : Try.prog.stoodInHeld 26 = false := by kernel_rfl
  have a3 := Try.isAgg3
  have z3 := Try.sizeOf3
  simp only [GR.val]
  rw [show (10000 : Nat) = 9999 + 1 from rfl, run_equalIn_struct w 9999 26 _ _ hS hp]
  simp only [Program.fieldsOf, Try.underlying26]
  go_simp
set_option maxRecDepth 20000 in
set_option maxHeartbeats 8000000 in
theorem lcapEx (a b : GC) (m : Int) (w : World) : Calls Try.prog 3 #[a.val, b.val, .int .i64 m] w fun e w' => e = .returned (.bool true) ∧ Below w.heap.size w w' := by
  have HV1 := Lib.hid fun W => pVC_any a W
  have HV2 := Lib.hid fun W => rVC_any a W
  have HG1 := Lib.hid fun W => pRng_any a W
  have HG2 := Lib.hid fun W => rRng_any a W
  have HS1 := Lib.hid fun W => pSam_any a b W
  have HS2 := Lib.hid fun W => rSam_any a b W
  have HC1 := Lib.hid fun W => pCoe_any a b W
  have HC2 := Lib.hid fun W => rCoe_any a b W
  have HA1 := Lib.hid fun W => pAtt_any a m W
  have HA2 := Lib.hid fun W => rAtt_any a m W
  have HAW := Lib.hid fun W => awake11 W
  have HEQ : Hid (∀ W, (Op.equalIn 10000 23 (attC a m).val (attC a m).val).run Try.prog W = .ok true W) := Lib.hid fun W => by rw [cap_eql, (eqC_iff _ _).2 rfl]
  have HER : Hid (∀ W, (Op.equalIn 10000 26 a.rng.val a.rng.val).run Try.prog W = .ok true W) := Lib.hid fun W => rng_eql _ W
  have HS0 := Lib.hid (CS2.drew (CS2.mk w a b))
  generalize vC a = v at *
  generalize sameO a b = s at *
  generalize coexB a b = c at *
  generalize attC a m = at_ at *
  generalize a.rng = g at *
  obtain ⟨gb, gn⟩ := g
  obtain ⟨tk, tb, tn, tr, tw, tl, td⟩ := at_
  obtain ⟨ak, ab, an, ar, aw, al, ad⟩ := a
  obtain ⟨bk, bb, bn, br, bw, bl, bd⟩ := b
  simp only [GC.val, GR.val, GC.cells] at *
  go_enter Try.func3, Try.ntmps3
  go_upto_region 1 with fail
  have hS := HS0.out
  refine wp_region_growS (S := fun W => Below w.heap.size w W ∧ CB W w.heap.size ⟨ak, ab, an, ar, aw, al, ad⟩ ∧ CB W (w.heap.size + 1) ⟨bk, bb, bn, br, bw, bl, bd⟩) [(0, true), (2, true), (1, false), (3, false), (4, true), (5, true), (6, true), (8, true), (7, false), (9, false), (10, true), (11, true), (12, true), (13, true), (14, true), (16, true), (17, true), (15, false), (18, false), (19, true), (20, true), (21, true), (22, true), (23, true), (25, true), (26, true), (24, false), (27, false), (28, true), (29, true), (30, true), (31, true), (32, true), (34, true), (35, true), (33, false), (36, false), (37, true), (38, true), (39, true), (40, false), (41, true), (42, true)] (by kernel_rfl) (by kernel_rfl) (by kernel_rfl) (by kernel_rfl) (by intro c a d v w h; cases d <;> exact h) hS ?_
  iterate 2
    (first
      | (refine wpGrowS_float (v := ?_) (by simp only [List.getElem?_toArray, List.getElem?_cons_succ, List.getElem?_cons_zero]; rfl) (by rfl) ?_ ?_
         rotate_left
         · (intro W hW; obtain ⟨p0, p1, p2, p3, p4, p5, p6⟩ := CB.cells (hW.2.1); obtain ⟨q0, q1, q2, q3, q4, q5, q6⟩ := CB.cells (hW.2.2); have heq := fun W => HEQ.out W; have heqr := fun W => HER.out W; (try simp only at *); go_simp; try with_reducible rfl)
         simp only [Act.put, List.setIfInBounds_toArray, List.set_cons_zero, List.set_cons_succ])
      | (refine wpGrowS_skip (by simp only [List.getElem?_toArray, List.getElem?_cons_succ, List.getElem?_cons_zero]; rfl) (by rfl) ?_
         simp only [Act.put, List.setIfInBounds_toArray, List.set_cons_zero, List.set_cons_succ]))
  refine wpGrowS_call (by simp only [List.getElem?_toArray, List.getElem?_cons_succ, List.getElem?_cons_zero]; rfl) (by rfl) fun K hK => ?_
  go_simp
  go_fit (HV1.out _)
  rintro e wn ⟨rfl, hbn⟩
  have hSp := hS
  have hS : Below w.heap.size w wn ∧ CB wn w.heap.size ⟨ak, ab, an, ar, aw, al, ad⟩ ∧ CB wn (w.heap.size + 1) ⟨bk, bb, bn, br, bw, bl, bd⟩ := ⟨beln (hS.1) hbn, CB.next (hS.2.1) hbn, CB.next (hS.2.2) hbn⟩
  go_simp
  refine hK _ _ hS ?_
  clear hK K
  try simp only [Act.put, List.setIfInBounds_toArray, List.set_cons_zero, List.set_cons_succ]
  refine wpGrowS_call (by simp only [List.getElem?_toArray, List.getElem?_cons_succ, List.getElem?_cons_zero]; rfl) (by rfl) fun K hK => ?_
  go_simp
  go_fit (HV2.out _)
  rintro e wn ⟨rfl, hbn⟩
  have hSp := hS
  have hS : Below w.heap.size w wn ∧ CB wn w.heap.size ⟨ak, ab, an, ar, aw, al, ad⟩ ∧ CB wn (w.heap.size + 1) ⟨bk, bb, bn, br, bw, bl, bd⟩ := ⟨beln (hS.1) hbn, CB.next (hS.2.1) hbn, CB.next (hS.2.2) hbn⟩
  go_simp
  refine hK _ _ hS ?_
  clear hK K
  try simp only [Act.put, List.setIfInBounds_toArray, List.set_cons_zero, List.set_cons_succ]
  iterate 4
    (first
      | (refine wpGrowS_float (v := ?_) (by simp only [List.getElem?_toArray, List.getElem?_cons_succ, List.getElem?_cons_zero]; rfl) (by rfl) ?_ ?_
         rotate_left
         · (intro W hW; obtain ⟨p0, p1, p2, p3, p4, p5, p6⟩ := CB.cells (hW.2.1); obtain ⟨q0, q1, q2, q3, q4, q5, q6⟩ := CB.cells (hW.2.2); have heq := fun W => HEQ.out W; have heqr := fun W => HER.out W; (try simp only at *); go_simp; try with_reducible rfl)
         simp only [Act.put, List.setIfInBounds_toArray, List.set_cons_zero, List.set_cons_succ])
      | (refine wpGrowS_skip (by simp only [List.getElem?_toArray, List.getElem?_cons_succ, List.getElem?_cons_zero]; rfl) (by rfl) ?_
         simp only [Act.put, List.setIfInBounds_toArray, List.set_cons_zero, List.set_cons_succ]))
  refine wpGrowS_call (by simp only [List.getElem?_toArray, List.getElem?_cons_succ, List.getElem?_cons_zero]; rfl) (by rfl) fun K hK => ?_
  go_simp
  go_fit (HG1.out _)
  rintro e wn ⟨rfl, hbn⟩
  have hSp := hS
  have hS : Below w.heap.size w wn ∧ CB wn w.heap.size ⟨ak, ab, an, ar, aw, al, ad⟩ ∧ CB wn (w.heap.size + 1) ⟨bk, bb, bn, br, bw, bl, bd⟩ := ⟨beln (hS.1) hbn, CB.next (hS.2.1) hbn, CB.next (hS.2.2) hbn⟩
  go_simp
  refine hK _ _ hS ?_
  clear hK K
  try simp only [Act.put, List.setIfInBounds_toArray, List.set_cons_zero, List.set_cons_succ]
  refine wpGrowS_call (by simp only [List.getElem?_toArray, List.getElem?_cons_succ, List.getElem?_cons_zero]; rfl) (by rfl) fun K hK => ?_
  go_simp
  go_fit (HG2.out _)
  rintro e wn ⟨rfl, hbn⟩
  have hSp := hS
  have hS : Below w.heap.size w wn ∧ CB wn w.heap.size ⟨ak, ab, an, ar, aw, al, ad⟩ ∧ CB wn (w.heap.size + 1) ⟨bk, bb, bn, br, bw, bl, bd⟩ := ⟨beln (hS.1) hbn, CB.next (hS.2.1) hbn, CB.next (hS.2.2) hbn⟩
  go_simp
  refine hK _ _ hS ?_
  clear hK K
  try simp only [Act.put, List.setIfInBounds_toArray, List.set_cons_zero, List.set_cons_succ]
  iterate 7
    (first
      | (refine wpGrowS_float (v := ?_) (by simp only [List.getElem?_toArray, List.getElem?_cons_succ, List.getElem?_cons_zero]; rfl) (by rfl) ?_ ?_
         rotate_left
         · (intro W hW; obtain ⟨p0, p1, p2, p3, p4, p5, p6⟩ := CB.cells (hW.2.1); obtain ⟨q0, q1, q2, q3, q4, q5, q6⟩ := CB.cells (hW.2.2); have heq := fun W => HEQ.out W; have heqr := fun W => HER.out W; (try simp only at *); go_simp; try with_reducible rfl)
         simp only [Act.put, List.setIfInBounds_toArray, List.set_cons_zero, List.set_cons_succ])
      | (refine wpGrowS_skip (by simp only [List.getElem?_toArray, List.getElem?_cons_succ, List.getElem?_cons_zero]; rfl) (by rfl) ?_
         simp only [Act.put, List.setIfInBounds_toArray, List.set_cons_zero, List.set_cons_succ]))
  refine wpGrowS_call (by simp only [List.getElem?_toArray, List.getElem?_cons_succ, List.getElem?_cons_zero]; rfl) (by rfl) fun K hK => ?_
  go_simp
  go_fit (HS1.out _)
  rintro e wn ⟨rfl, hbn⟩
  have hSp := hS
  have hS : Below w.heap.size w wn ∧ CB wn w.heap.size ⟨ak, ab, an, ar, aw, al, ad⟩ ∧ CB wn (w.heap.size + 1) ⟨bk, bb, bn, br, bw, bl, bd⟩ := ⟨beln (hS.1) hbn, CB.next (hS.2.1) hbn, CB.next (hS.2.2) hbn⟩
  go_simp
  refine hK _ _ hS ?_
  clear hK K
  try simp only [Act.put, List.setIfInBounds_toArray, List.set_cons_zero, List.set_cons_succ]
  refine wpGrowS_call (by simp only [List.getElem?_toArray, List.getElem?_cons_succ, List.getElem?_cons_zero]; rfl) (by rfl) fun K hK => ?_
  go_simp
  go_fit (HS2.out _)
  rintro e wn ⟨rfl, hbn⟩
  have hSp := hS
  have hS : Below w.heap.size w wn ∧ CB wn w.heap.size ⟨ak, ab, an, ar, aw, al, ad⟩ ∧ CB wn (w.heap.size + 1) ⟨bk, bb, bn, br, bw, bl, bd⟩ := ⟨beln (hS.1) hbn, CB.next (hS.2.1) hbn, CB.next (hS.2.2) hbn⟩
  go_simp
  refine hK _ _ hS ?_
  clear hK K
  try simp only [Act.put, List.setIfInBounds_toArray, List.set_cons_zero, List.set_cons_succ]
  iterate 7
    (first
      | (refine wpGrowS_float (v := ?_) (by simp only [List.getElem?_toArray, List.getElem?_cons_succ, List.getElem?_cons_zero]; rfl) (by rfl) ?_ ?_
         rotate_left
         · (intro W hW; obtain ⟨p0, p1, p2, p3, p4, p5, p6⟩ := CB.cells (hW.2.1); obtain ⟨q0, q1, q2, q3, q4, q5, q6⟩ := CB.cells (hW.2.2); have heq := fun W => HEQ.out W; have heqr := fun W => HER.out W; (try simp only at *); go_simp; try with_reducible rfl)
         simp only [Act.put, List.setIfInBounds_toArray, List.set_cons_zero, List.set_cons_succ])
      | (refine wpGrowS_skip (by simp only [List.getElem?_toArray, List.getElem?_cons_succ, List.getElem?_cons_zero]; rfl) (by rfl) ?_
         simp only [Act.put, List.setIfInBounds_toArray, List.set_cons_zero, List.set_cons_succ]))
  refine wpGrowS_call (by simp only [List.getElem?_toArray, List.getElem?_cons_succ, List.getElem?_cons_zero]; rfl) (by rfl) fun K hK => ?_
  go_simp
  go_fit (HC1.out _)
  rintro e wn ⟨rfl, hbn⟩
  have hSp := hS
  have hS : Below w.heap.size w wn ∧ CB wn w.heap.size ⟨ak, ab, an, ar, aw, al, ad⟩ ∧ CB wn (w.heap.size + 1) ⟨bk, bb, bn, br, bw, bl, bd⟩ := ⟨beln (hS.1) hbn, CB.next (hS.2.1) hbn, CB.next (hS.2.2) hbn⟩
  go_simp
  refine hK _ _ hS ?_
  clear hK K
  try simp only [Act.put, List.setIfInBounds_toArray, List.set_cons_zero, List.set_cons_succ]
  refine wpGrowS_call (by simp only [List.getElem?_toArray, List.getElem?_cons_succ, List.getElem?_cons_zero]; rfl) (by rfl) fun K hK => ?_
  go_simp
  go_fit (HC2.out _)
  rintro e wn ⟨rfl, hbn⟩
  have hSp := hS
  have hS : Below w.heap.size w wn ∧ CB wn w.heap.size ⟨ak, ab, an, ar, aw, al, ad⟩ ∧ CB wn (w.heap.size + 1) ⟨bk, bb, bn, br, bw, bl, bd⟩ := ⟨beln (hS.1) hbn, CB.next (hS.2.1) hbn, CB.next (hS.2.2) hbn⟩
  go_simp
  refine hK _ _ hS ?_
  clear hK K
  try simp only [Act.put, List.setIfInBounds_toArray, List.set_cons_zero, List.set_cons_succ]
  iterate 7
    (first
      | (refine wpGrowS_float (v := ?_) (by simp only [List.getElem?_toArray, List.getElem?_cons_succ, List.getElem?_cons_zero]; rfl) (by rfl) ?_ ?_
         rotate_left
         · (intro W hW; obtain ⟨p0, p1, p2, p3, p4, p5, p6⟩ := CB.cells (hW.2.1); obtain ⟨q0, q1, q2, q3, q4, q5, q6⟩ := CB.cells (hW.2.2); have heq := fun W => HEQ.out W; have heqr := fun W => HER.out W; (try simp only at *); go_simp; try with_reducible rfl)
         simp only [Act.put, List.setIfInBounds_toArray, List.set_cons_zero, List.set_cons_succ])
      | (refine wpGrowS_skip (by simp only [List.getElem?_toArray, List.getElem?_cons_succ, List.getElem?_cons_zero]; rfl) (by rfl) ?_
         simp only [Act.put, List.setIfInBounds_toArray, List.set_cons_zero, List.set_cons_succ]))
  refine wpGrowS_call (by simp only [List.getElem?_toArray, List.getElem?_cons_succ, List.getElem?_cons_zero]; rfl) (by rfl) fun K hK => ?_
  go_simp
  go_fit (HA1.out _)
  rintro e wn ⟨rfl, hbn⟩
  have hSp := hS
  have hS : Below w.heap.size w wn ∧ CB wn w.heap.size ⟨ak, ab, an, ar, aw, al, ad⟩ ∧ CB wn (w.heap.size + 1) ⟨bk, bb, bn, br, bw, bl, bd⟩ := ⟨beln (hS.1) hbn, CB.next (hS.2.1) hbn, CB.next (hS.2.2) hbn⟩
  go_simp
  refine hK _ _ hS ?_
  clear hK K
  try simp only [Act.put, List.setIfInBounds_toArray, List.set_cons_zero, List.set_cons_succ]
  refine wpGrowS_call (by simp only [List.getElem?_toArray, List.getElem?_cons_succ, List.getElem?_cons_zero]; rfl) (by rfl) fun K hK => ?_
  go_simp
  go_fit (HA2.out _)
  rintro e wn ⟨rfl, hbn⟩
  have hSp := hS
  have hS : Below w.heap.size w wn ∧ CB wn w.heap.size ⟨ak, ab, an, ar, aw, al, ad⟩ ∧ CB wn (w.heap.size + 1) ⟨bk, bb, bn, br, bw, bl, bd⟩ := ⟨beln (hS.1) hbn, CB.next (hS.2.1) hbn, CB.next (hS.2.2) hbn⟩
  go_simp
  refine hK _ _ hS ?_
  clear hK K
  try simp only [Act.put, List.setIfInBounds_toArray, List.set_cons_zero, List.set_cons_succ]
  iterate 3
    (first
      | (refine wpGrowS_float (v := ?_) (by simp only [List.getElem?_toArray, List.getElem?_cons_succ, List.getElem?_cons_zero]; rfl) (by rfl) ?_ ?_
         rotate_left
         · (intro W hW; obtain ⟨p0, p1, p2, p3, p4, p5, p6⟩ := CB.cells (hW.2.1); obtain ⟨q0, q1, q2, q3, q4, q5, q6⟩ := CB.cells (hW.2.2); have heq := fun W => HEQ.out W; have heqr := fun W => HER.out W; (try simp only at *); go_simp; try with_reducible rfl)
         simp only [Act.put, List.setIfInBounds_toArray, List.set_cons_zero, List.set_cons_succ])
      | (refine wpGrowS_skip (by simp only [List.getElem?_toArray, List.getElem?_cons_succ, List.getElem?_cons_zero]; rfl) (by rfl) ?_
         simp only [Act.put, List.setIfInBounds_toArray, List.set_cons_zero, List.set_cons_succ]))
  refine wpGrowS_call (by simp only [List.getElem?_toArray, List.getElem?_cons_succ, List.getElem?_cons_zero]; rfl) (by rfl) fun K hK => ?_
  go_simp
  go_fit (HAW.out _)
  rintro e wn ⟨rfl, hbn⟩
  have hSp := hS
  have hS : Below w.heap.size w wn ∧ CB wn w.heap.size ⟨ak, ab, an, ar, aw, al, ad⟩ ∧ CB wn (w.heap.size + 1) ⟨bk, bb, bn, br, bw, bl, bd⟩ := ⟨beln (hS.1) hbn, CB.next (hS.2.1) hbn, CB.next (hS.2.2) hbn⟩
  go_simp
  refine hK _ _ hS ?_
  clear hK K
  try simp only [Act.put, List.setIfInBounds_toArray, List.set_cons_zero, List.set_cons_succ]
  iterate 2
    (first
      | (refine wpGrowS_float (v := ?_) (by simp only [List.getElem?_toArray, List.getElem?_cons_succ, List.getElem?_cons_zero]; rfl) (by rfl) ?_ ?_
         rotate_left
         · (intro W hW; obtain ⟨p0, p1, p2, p3, p4, p5, p6⟩ := CB.cells (hW.2.1); obtain ⟨q0, q1, q2, q3, q4, q5, q6⟩ := CB.cells (hW.2.2); have heq := fun W => HEQ.out W; have heqr := fun W => HER.out W; (try simp only at *); go_simp; try with_reducible rfl)
         simp only [Act.put, List.setIfInBounds_toArray, List.set_cons_zero, List.set_cons_succ])
      | (refine wpGrowS_skip (by simp only [List.getElem?_toArray, List.getElem?_cons_succ, List.getElem?_cons_zero]; rfl) (by rfl) ?_
         simp only [Act.put, List.setIfInBounds_toArray, List.set_cons_zero, List.set_cons_succ]))
  refine wpGrowS_nil ?_
  have HE := Lib.hid hS.1
  clear hS hSp hbn HV1 HV2 HG1 HG2 HS1 HS2 HC1 HC2 HA1 HA2 HAW HEQ HER HS0
  generalize wn = wz at *
  go_wp2
  go_ret
  exact ⟨rfl, HE.out⟩
end Go.Proofs.Ytpjakfbjiioflaa
