/-
  The law CapAttenuate returns true.
  Conditions: none.
-/
import Derived.Test.YtpjakfbjiioflaaCah
import Derived.Test.YtpjakfbjiioflaaGrs
namespace Go.Proofs.Ytpjakfbjiioflaa

open Go.RowKit

theorem att3 {r : Int} (h0 : 0 ≤ r) (h1 : r ≤ 7) (a b : Int) : bits .and .i64 (bits .and .i64 r a) b = bits .and .i64 r (bits .and .i64 a b) ∧ bits .and .i64 (bits .and .i64 r a) r = bits .and .i64 r a ∧ bits .and .i64 r 7 = r ∧ 0 ≤ bits .and .i64 r a ∧ bits .and .i64 r a ≤ 7 := by
  obtain ⟨n, rfl⟩ : ∃ n : Nat, r = n := ⟨r.toNat, by omega⟩
  have hle := Nat.and_le_left (n := n) (m := mN a)
  rw [and_small (a := n) (by omega) a, and_small (a := n &&& mN a) (by omega) b, and_small (a := n &&& mN a) (by omega) (n : Int), and_small (a := n) (by omega) (bits .and .i64 a b), and_small (a := n) (by omega) 7, mN_and, mN_nat (a := n) (by omega), show mN 7 = 7 from mN_nat (a := 7) (by decide)]
  refine ⟨by rw [Nat.and_assoc], ?_, ?_, by omega, by omega⟩
  · congr 1
    rw [Nat.and_assoc, Nat.and_comm (mN a) n, ← Nat.and_assoc, Nat.and_self]
  · rw [show (7 : Nat) = 2 ^ 3 - 1 by decide, Nat.and_two_pow_sub_one_eq_mod]
    omega
theorem vC_rights {k b n r w l x : Int} {d : Bool} (h : vC ⟨k, b, n, r, w, l, d⟩ = true) (h0 : 0 ≤ x) (h1 : x ≤ 7) : vC ⟨k, b, n, x, w, l, d⟩ = true := by
  unfold vC at *
  simp only [Bool.and_eq_true, decide_eq_true_eq] at *
  obtain ⟨⟨⟨⟨⟨a1, a2⟩, a3⟩, a4⟩, a5⟩, a6⟩ := h
  exact ⟨⟨⟨⟨⟨a1, a2⟩, h0⟩, h1⟩, a5⟩, a6⟩
theorem sameO_rights (k b n r w l x : Int) (d : Bool) : sameO ⟨k, b, n, r, w, l, d⟩ ⟨k, b, n, x, w, l, d⟩ = true := by simp [sameO]
theorem CS3.drew {w W : World} {N M K : Nat} {a b c : GC} (h : Below w.heap.size w W ∧ CB W N a ∧ CB W M b ∧ CB W K c) : Below w.heap.size w W.drew ∧ CB W.drew N a ∧ CB W.drew M b ∧ CB W.drew K c := ⟨h.1.drew, h.2.1, h.2.2.1, h.2.2.2⟩
set_option maxRecDepth 20000 in
set_option maxHeartbeats 8000000 in
theorem lcatt (kd ba bi ri le a b : Int) (w : World) : Calls Try.prog 10 #[.int .i64 kd, .int .i64 ba, .int .i64 bi, .int .i64 ri, .int .i64 le, .int .i64 a, .int .i64 b] w fun e w' => e = .returned (.bool true) ∧ Below w.heap.size w w' := by
  have HAW := Lib.hid fun W => awake11 W
  have HM := Lib.hid (mCap_any kd ba bi ri le w)
  go_enter Try.func10, Try.ntmps10
  go_wp2_with fail
  go_fit HM.out
  rintro e w1 ⟨c, hv, rfl, hb1⟩
  obtain ⟨ck, cb, cn, cr, cw, cl, cd⟩ := c
  have hvf := vC_facts hv
  simp only at hvf
  obtain ⟨a3, a4, a5, a6, a7⟩ := att3 (r := cr) (by omega) (by omega) a b
  obtain ⟨_, _, _, a8, a9⟩ := att3 (r := bits .and .i64 cr a) a6 a7 b b
  have HV := Lib.hid (vC_rights hv a8 a9)
  have HA1 := Lib.hid fun W => pAtt_any ⟨ck, cb, cn, cr, cw, cl, cd⟩ a W
  have HA2 := Lib.hid fun W => pAtt_any ⟨ck, cb, cn, bits .and .i64 cr a, cw, cl, cd⟩ b W
  have HT1 := Lib.hid fun W => pAtt_any ⟨ck, cb, cn, cr, cw, cl, cd⟩ (bits .and .i64 a b) W
  have HT2 := Lib.hid fun W => pAtt_any ⟨ck, cb, cn, cr, cw, cl, cd⟩ 7 W
  unfold attC at HA1 HA2 HT1 HT2
  simp only at HA1 HA2 HT1 HT2
  rw [← a3] at HT1
  rw [a5] at HT2
  have HXR := Lib.hid a4
  generalize bits .and .i64 (bits .and .i64 cr a) b = yr at *
  generalize bits .and .i64 cr a = xr at *
  have HSAM := Lib.hid fun W => pSam_any ⟨ck, cb, cn, cr, cw, cl, cd⟩ ⟨ck, cb, cn, yr, cw, cl, cd⟩ W
  rw [sameO_rights] at HSAM
  have HVAL := Lib.hid fun W => pVC_any ⟨ck, cb, cn, yr, cw, cl, cd⟩ W
  rw [HV.out] at HVAL
  have HEQ : Hid (∀ W, (Op.equalIn 10000 23 (GC.val ⟨ck, cb, cn, yr, cw, cl, cd⟩) (GC.val ⟨ck, cb, cn, yr, cw, cl, cd⟩)).run Try.prog W = .ok true W) := Lib.hid fun W => by rw [cap_eql, (eqC_iff _ _).2 rfl]
  have HEC : Hid (∀ W, (Op.equalIn 10000 23 (GC.val ⟨ck, cb, cn, cr, cw, cl, cd⟩) (GC.val ⟨ck, cb, cn, cr, cw, cl, cd⟩)).run Try.prog W = .ok true W) := Lib.hid fun W => by rw [cap_eql, (eqC_iff _ _).2 rfl]
  have HX := Lib.hid (CB.new w1 ⟨ck, cb, cn, cr, cw, cl, cd⟩)
  have HB1 := Lib.hid (belt hb1 (.cells #[.int .i64 ck, .int .i64 cb, .int .i64 cn, .int .i64 cr, .int .i64 cw, .int .i64 cl, .bool cd] 23))
  simp only [GC.val] at *
  clear hv hb1 hvf a3 a4 a5 a6 a7 a8 a9 HM HV
  go_upto_region 2 with fail
  generalize w1.heap.size = N1 at *
  generalize w1.alloc (.cells #[.int .i64 ck, .int .i64 cb, .int .i64 cn, .int .i64 cr, .int .i64 cw, .int .i64 cl, .bool cd] 23) = w2 at *
  obtain ⟨y0, y1, y2, y3, y4, y5, y6⟩ := HX.out.cells
  simp only at y0 y1 y2 y3 y4 y5 y6
  go_wp2_with fail
  go_fit (HA1.out _)
  rintro e w3 ⟨rfl, hb3⟩
  have hq3 := belt hb3 (.cells #[.int .i64 ck, .int .i64 cb, .int .i64 cn, .int .i64 xr, .int .i64 cw, .int .i64 cl, .bool cd] 23)
  have HX3 := Lib.hid (HX.out.next hq3)
  have HB3 := Lib.hid (beln HB1.out hq3)
  have HY := Lib.hid (CB.new w3 ⟨ck, cb, cn, xr, cw, cl, cd⟩)
  simp only at HY HX3
  clear hb3 hq3 HX HB1 HA1 y0 y1 y2 y3 y4 y5 y6
  go_upto_region 3 with fail
  generalize w3.heap.size = N2 at *
  generalize w3.alloc (.cells #[.int .i64 ck, .int .i64 cb, .int .i64 cn, .int .i64 xr, .int .i64 cw, .int .i64 cl, .bool cd] 23) = w4 at *
  obtain ⟨y0, y1, y2, y3, y4, y5, y6⟩ := HY.out.cells
  simp only at y0 y1 y2 y3 y4 y5 y6
  go_wp2_with fail
  go_fit (HA2.out _)
  rintro e w5 ⟨rfl, hb5⟩
  have hq5 := belt hb5 (.cells #[.int .i64 ck, .int .i64 cb, .int .i64 cn, .int .i64 yr, .int .i64 cw, .int .i64 cl, .bool cd] 23)
  have HX5 := Lib.hid (HX3.out.next hq5)
  have HY5 := Lib.hid (HY.out.next hq5)
  have HB5 := Lib.hid (beln HB3.out hq5)
  have HZ := Lib.hid (CB.new w5 ⟨ck, cb, cn, yr, cw, cl, cd⟩)
  simp only at HZ HY5 HX5
  clear hb5 hq5 HX3 HY HB3 HA2 y0 y1 y2 y3 y4 y5 y6
  go_upto_region 4 with fail
  generalize w5.heap.size = N3 at *
  generalize w5.alloc (.cells #[.int .i64 ck, .int .i64 cb, .int .i64 cn, .int .i64 yr, .int .i64 cw, .int .i64 cl, .bool cd] 23) = w6 at *
  have hS := CS3.drew ⟨HB5.out, HX5.out, HY5.out, HZ.out⟩
  refine wp_region_growS (S := fun W => Below w.heap.size w W ∧ CB W N1 ⟨ck, cb, cn, cr, cw, cl, cd⟩ ∧ CB W N2 ⟨ck, cb, cn, xr, cw, cl, cd⟩ ∧ CB W N3 ⟨ck, cb, cn, yr, cw, cl, cd⟩) [(0, true), (1, true), (2, true), (3, true), (4, true), (5, false), (6, true), (7, true), (8, true), (9, true), (10, true), (11, true), (12, true), (13, true), (14, true), (15, true), (16, true), (17, true), (18, true), (19, true), (20, false), (21, true), (22, true), (23, true), (24, false), (25, true), (26, true), (27, true), (29, true), (28, false), (30, true), (31, true), (32, true), (33, false), (34, true), (35, true)] (by kernel_rfl) (by kernel_rfl) (by kernel_rfl) (by kernel_rfl) (by intro c a d v w h; cases d <;> exact h) hS ?_
  iterate 5
    (first
      | (refine wpGrowS_float (v := ?_) (by simp only [List.getElem?_toArray, List.getElem?_cons_succ, List.getElem?_cons_zero]; rfl) (by rfl) ?_ ?_
         rotate_left
         · (intro W hW; obtain ⟨p0, p1, p2, p3, p4, p5, p6⟩ := CB.cells (hW.2.1); obtain ⟨q0, q1, q2, q3, q4, q5, q6⟩ := CB.cells (hW.2.2.1); obtain ⟨r0, r1, r2, r3, r4, r5, r6⟩ := CB.cells (hW.2.2.2); have heq := fun W => HEQ.out W; have heqc := fun W => HEC.out W; have hxr := HXR.out; (try simp only at *); go_simp; try with_reducible rfl)
         simp only [Act.put, List.setIfInBounds_toArray, List.set_cons_zero, List.set_cons_succ])
      | (refine wpGrowS_skip (by simp only [List.getElem?_toArray, List.getElem?_cons_succ, List.getElem?_cons_zero]; rfl) (by rfl) ?_
         simp only [Act.put, List.setIfInBounds_toArray, List.set_cons_zero, List.set_cons_succ]))
  refine wpGrowS_call (by simp only [List.getElem?_toArray, List.getElem?_cons_succ, List.getElem?_cons_zero]; rfl) (by rfl) fun K hK => ?_
  go_simp
  go_fit (HT1.out _)
  rintro e wn ⟨rfl, hbn⟩
  have hSp := hS
  have hS : Below w.heap.size w wn ∧ CB wn N1 ⟨ck, cb, cn, cr, cw, cl, cd⟩ ∧ CB wn N2 ⟨ck, cb, cn, xr, cw, cl, cd⟩ ∧ CB wn N3 ⟨ck, cb, cn, yr, cw, cl, cd⟩ := ⟨beln (hS.1) hbn, CB.next (hS.2.1) hbn, CB.next (hS.2.2.1) hbn, CB.next (hS.2.2.2) hbn⟩
  go_simp
  refine hK _ _ hS ?_
  clear hK K
  try simp only [Act.put, List.setIfInBounds_toArray, List.set_cons_zero, List.set_cons_succ]
  iterate 14
    (first
      | (refine wpGrowS_float (v := ?_) (by simp only [List.getElem?_toArray, List.getElem?_cons_succ, List.getElem?_cons_zero]; rfl) (by rfl) ?_ ?_
         rotate_left
         · (intro W hW; obtain ⟨p0, p1, p2, p3, p4, p5, p6⟩ := CB.cells (hW.2.1); obtain ⟨q0, q1, q2, q3, q4, q5, q6⟩ := CB.cells (hW.2.2.1); obtain ⟨r0, r1, r2, r3, r4, r5, r6⟩ := CB.cells (hW.2.2.2); have heq := fun W => HEQ.out W; have heqc := fun W => HEC.out W; have hxr := HXR.out; (try simp only at *); go_simp; try with_reducible rfl)
         simp only [Act.put, List.setIfInBounds_toArray, List.set_cons_zero, List.set_cons_succ])
      | (refine wpGrowS_skip (by simp only [List.getElem?_toArray, List.getElem?_cons_succ, List.getElem?_cons_zero]; rfl) (by rfl) ?_
         simp only [Act.put, List.setIfInBounds_toArray, List.set_cons_zero, List.set_cons_succ]))
  refine wpGrowS_call (by simp only [List.getElem?_toArray, List.getElem?_cons_succ, List.getElem?_cons_zero]; rfl) (by rfl) fun K hK => ?_
  go_simp
  go_fit (HSAM.out _)
  rintro e wn ⟨rfl, hbn⟩
  have hSp := hS
  have hS : Below w.heap.size w wn ∧ CB wn N1 ⟨ck, cb, cn, cr, cw, cl, cd⟩ ∧ CB wn N2 ⟨ck, cb, cn, xr, cw, cl, cd⟩ ∧ CB wn N3 ⟨ck, cb, cn, yr, cw, cl, cd⟩ := ⟨beln (hS.1) hbn, CB.next (hS.2.1) hbn, CB.next (hS.2.2.1) hbn, CB.next (hS.2.2.2) hbn⟩
  go_simp
  refine hK _ _ hS ?_
  clear hK K
  try simp only [Act.put, List.setIfInBounds_toArray, List.set_cons_zero, List.set_cons_succ]
  iterate 3
    (first
      | (refine wpGrowS_float (v := ?_) (by simp only [List.getElem?_toArray, List.getElem?_cons_succ, List.getElem?_cons_zero]; rfl) (by rfl) ?_ ?_
         rotate_left
         · (intro W hW; obtain ⟨p0, p1, p2, p3, p4, p5, p6⟩ := CB.cells (hW.2.1); obtain ⟨q0, q1, q2, q3, q4, q5, q6⟩ := CB.cells (hW.2.2.1); obtain ⟨r0, r1, r2, r3, r4, r5, r6⟩ := CB.cells (hW.2.2.2); have heq := fun W => HEQ.out W; have heqc := fun W => HEC.out W; have hxr := HXR.out; (try simp only at *); go_simp; try with_reducible rfl)
         simp only [Act.put, List.setIfInBounds_toArray, List.set_cons_zero, List.set_cons_succ])
      | (refine wpGrowS_skip (by simp only [List.getElem?_toArray, List.getElem?_cons_succ, List.getElem?_cons_zero]; rfl) (by rfl) ?_
         simp only [Act.put, List.setIfInBounds_toArray, List.set_cons_zero, List.set_cons_succ]))
  refine wpGrowS_call (by simp only [List.getElem?_toArray, List.getElem?_cons_succ, List.getElem?_cons_zero]; rfl) (by rfl) fun K hK => ?_
  go_simp
  go_fit (HVAL.out _)
  rintro e wn ⟨rfl, hbn⟩
  have hSp := hS
  have hS : Below w.heap.size w wn ∧ CB wn N1 ⟨ck, cb, cn, cr, cw, cl, cd⟩ ∧ CB wn N2 ⟨ck, cb, cn, xr, cw, cl, cd⟩ ∧ CB wn N3 ⟨ck, cb, cn, yr, cw, cl, cd⟩ := ⟨beln (hS.1) hbn, CB.next (hS.2.1) hbn, CB.next (hS.2.2.1) hbn, CB.next (hS.2.2.2) hbn⟩
  go_simp
  refine hK _ _ hS ?_
  clear hK K
  try simp only [Act.put, List.setIfInBounds_toArray, List.set_cons_zero, List.set_cons_succ]
  iterate 4
    (first
      | (refine wpGrowS_float (v := ?_) (by simp only [List.getElem?_toArray, List.getElem?_cons_succ, List.getElem?_cons_zero]; rfl) (by rfl) ?_ ?_
         rotate_left
         · (intro W hW; obtain ⟨p0, p1, p2, p3, p4, p5, p6⟩ := CB.cells (hW.2.1); obtain ⟨q0, q1, q2, q3, q4, q5, q6⟩ := CB.cells (hW.2.2.1); obtain ⟨r0, r1, r2, r3, r4, r5, r6⟩ := CB.cells (hW.2.2.2); have heq := fun W => HEQ.out W; have heqc := fun W => HEC.out W; have hxr := HXR.out; (try simp only at *); go_simp; try with_reducible rfl)
         simp only [Act.put, List.setIfInBounds_toArray, List.set_cons_zero, List.set_cons_succ])
      | (refine wpGrowS_skip (by simp only [List.getElem?_toArray, List.getElem?_cons_succ, List.getElem?_cons_zero]; rfl) (by rfl) ?_
         simp only [Act.put, List.setIfInBounds_toArray, List.set_cons_zero, List.set_cons_succ]))
  refine wpGrowS_call (by simp only [List.getElem?_toArray, List.getElem?_cons_succ, List.getElem?_cons_zero]; rfl) (by rfl) fun K hK => ?_
  go_simp
  go_fit (HT2.out _)
  rintro e wn ⟨rfl, hbn⟩
  have hSp := hS
  have hS : Below w.heap.size w wn ∧ CB wn N1 ⟨ck, cb, cn, cr, cw, cl, cd⟩ ∧ CB wn N2 ⟨ck, cb, cn, xr, cw, cl, cd⟩ ∧ CB wn N3 ⟨ck, cb, cn, yr, cw, cl, cd⟩ := ⟨beln (hS.1) hbn, CB.next (hS.2.1) hbn, CB.next (hS.2.2.1) hbn, CB.next (hS.2.2.2) hbn⟩
  go_simp
  refine hK _ _ hS ?_
  clear hK K
  try simp only [Act.put, List.setIfInBounds_toArray, List.set_cons_zero, List.set_cons_succ]
  iterate 3
    (first
      | (refine wpGrowS_float (v := ?_) (by simp only [List.getElem?_toArray, List.getElem?_cons_succ, List.getElem?_cons_zero]; rfl) (by rfl) ?_ ?_
         rotate_left
         · (intro W hW; obtain ⟨p0, p1, p2, p3, p4, p5, p6⟩ := CB.cells (hW.2.1); obtain ⟨q0, q1, q2, q3, q4, q5, q6⟩ := CB.cells (hW.2.2.1); obtain ⟨r0, r1, r2, r3, r4, r5, r6⟩ := CB.cells (hW.2.2.2); have heq := fun W => HEQ.out W; have heqc := fun W => HEC.out W; have hxr := HXR.out; (try simp only at *); go_simp; try with_reducible rfl)
         simp only [Act.put, List.setIfInBounds_toArray, List.set_cons_zero, List.set_cons_succ])
      | (refine wpGrowS_skip (by simp only [List.getElem?_toArray, List.getElem?_cons_succ, List.getElem?_cons_zero]; rfl) (by rfl) ?_
         simp only [Act.put, List.setIfInBounds_toArray, List.set_cons_zero, List.set_cons_succ]))
  refine wpGrowS_call (by simp only [List.getElem?_toArray, List.getElem?_cons_succ, List.getElem?_cons_zero]; rfl) (by rfl) fun K hK => ?_
  go_simp
  go_fit (HAW.out _)
  rintro e wn ⟨rfl, hbn⟩
  have hSp := hS
  have hS : Below w.heap.size w wn ∧ CB wn N1 ⟨ck, cb, cn, cr, cw, cl, cd⟩ ∧ CB wn N2 ⟨ck, cb, cn, xr, cw, cl, cd⟩ ∧ CB wn N3 ⟨ck, cb, cn, yr, cw, cl, cd⟩ := ⟨beln (hS.1) hbn, CB.next (hS.2.1) hbn, CB.next (hS.2.2.1) hbn, CB.next (hS.2.2.2) hbn⟩
  go_simp
  refine hK _ _ hS ?_
  clear hK K
  try simp only [Act.put, List.setIfInBounds_toArray, List.set_cons_zero, List.set_cons_succ]
  iterate 2
    (first
      | (refine wpGrowS_float (v := ?_) (by simp only [List.getElem?_toArray, List.getElem?_cons_succ, List.getElem?_cons_zero]; rfl) (by rfl) ?_ ?_
         rotate_left
         · (intro W hW; obtain ⟨p0, p1, p2, p3, p4, p5, p6⟩ := CB.cells (hW.2.1); obtain ⟨q0, q1, q2, q3, q4, q5, q6⟩ := CB.cells (hW.2.2.1); obtain ⟨r0, r1, r2, r3, r4, r5, r6⟩ := CB.cells (hW.2.2.2); have heq := fun W => HEQ.out W; have heqc := fun W => HEC.out W; have hxr := HXR.out; (try simp only at *); go_simp; try with_reducible rfl)
         simp only [Act.put, List.setIfInBounds_toArray, List.set_cons_zero, List.set_cons_succ])
      | (refine wpGrowS_skip (by simp only [List.getElem?_toArray, List.getElem?_cons_succ, List.getElem?_cons_zero]; rfl) (by rfl) ?_
         simp only [Act.put, List.setIfInBounds_toArray, List.set_cons_zero, List.set_cons_succ]))
  refine wpGrowS_nil ?_
  have HE := Lib.hid hS.1
  clear hS hSp hbn HT1 HT2 HSAM HVAL HAW HEQ HEC HXR HX5 HY5 HB5 HZ
  generalize wn = wz at *
  go_wp2
  go_ret
  exact ⟨rfl, HE.out⟩
end Go.Proofs.Ytpjakfbjiioflaa
