/-
  The law CapCoexist returns true.
  Conditions: none.
-/
import Derived.Test.YtpjakfbjiioflaaLcf
namespace Go.Proofs.Ytpjakfbjiioflaa

open Go.RowKit

theorem coex_comm (a b : GC) : coexB b a = coexB a b := by
  have h1 : ovR b.rng a.rng = ovR a.rng b.rng := ov_comm _ _
  have h2 : sameO b a = sameO a b := by
    unfold sameO
    simp only [eq_comm (a := b.kind), eq_comm (a := b.base), eq_comm (a := b.bits), eq_comm (a := b.width), eq_comm (a := b.level), eq_comm (a := b.device)]
  unfold coexB
  rw [h1, h2, Bool.or_assoc, Bool.or_comm (decide (b.kind = 1) && conR b.rng a.rng), ← Bool.or_assoc]
theorem coex_att (k b n r w l x : Int) (d : Bool) : coexB ⟨k, b, n, r, w, l, d⟩ ⟨k, b, n, x, w, l, d⟩ = true := by
  unfold coexB
  rw [sameO_rights]
  simp
theorem coex_base {a b : GC} (ha : vC a = true) (hb : vC b = true) (h : a.base = b.base) (h1 : a.kind ≠ 1) (h2 : b.kind ≠ 1) : coexB a b = sameO a b := by
  have va := (vC_facts ha).1
  have vb := (vC_facts hb).1
  have ho : ovR a.rng b.rng = true := by
    have z1 : 0 < a.rng.sz := pw_pos _
    have z2 : 0 < b.rng.sz := pw_pos _
    have h3 : a.rng.base = b.rng.base := h
    unfold ovR
    rw [vR_iff.2 va, vR_iff.2 vb, va.endR, vb.endR]
    simp only [Bool.true_and, Bool.and_eq_true, decide_eq_true_eq]
    omega
  unfold coexB
  rw [ho]
  simp [h1, h2]
theorem C3D {w W : World} {N M : Nat} {a b : GC} (h : Below w.heap.size w W ∧ CB W N a ∧ CB W M b) : Below w.heap.size w W.drew ∧ CB W.drew N a ∧ CB W.drew M b := ⟨h.1.drew, h.2.1, h.2.2⟩
set_option maxRecDepth 20000 in
set_option maxHeartbeats 8000000 in
theorem lccoex (k b s r v kk bb ss rr vv m : Int) (w : World) : Calls Try.prog 11 #[.int .i64 k, .int .i64 b, .int .i64 s, .int .i64 r, .int .i64 v, .int .i64 kk, .int .i64 bb, .int .i64 ss, .int .i64 rr, .int .i64 vv, .int .i64 m] w fun e w' => e = .returned (.bool true) ∧ Below w.heap.size w w' := by
  have HAW := Lib.hid fun W => awake11 W
  have HM := Lib.hid (mCap_any k b s r v w)
  have HM2 := Lib.hid fun W => mCap_any kk bb ss rr vv W
  go_enter Try.func11, Try.ntmps11
  go_wp2_with fail
  go_fit HM.out
  rintro e w1 ⟨c, hv, rfl, hb1⟩
  obtain ⟨ck, cb, cn, cr, cw, cl, cd⟩ := c
  have HVX := Lib.hid hv
  have HX := Lib.hid (CB.new w1 ⟨ck, cb, cn, cr, cw, cl, cd⟩)
  have HB1 := Lib.hid (belt hb1 (.cells #[.int .i64 ck, .int .i64 cb, .int .i64 cn, .int .i64 cr, .int .i64 cw, .int .i64 cl, .bool cd] 23))
  simp only [GC.val] at *
  clear hv hb1 HM
  go_upto_region 2 with fail
  generalize w1.heap.size = N1 at *
  generalize w1.alloc (.cells #[.int .i64 ck, .int .i64 cb, .int .i64 cn, .int .i64 cr, .int .i64 cw, .int .i64 cl, .bool cd] 23) = w2 at *
  go_wp2_with fail
  go_fit (HM2.out _)
  rintro e w3 ⟨c, hv, rfl, hb3⟩
  obtain ⟨dk, db, dn, dr, dw, dl, dd⟩ := c
  have hq3 := belt hb3 (.cells #[.int .i64 dk, .int .i64 db, .int .i64 dn, .int .i64 dr, .int .i64 dw, .int .i64 dl, .bool dd] 23)
  have HX3 := Lib.hid (HX.out.next hq3)
  have HB3 := Lib.hid (beln HB1.out hq3)
  have HY := Lib.hid (CB.new w3 ⟨dk, db, dn, dr, dw, dl, dd⟩)
  have HNE : Hid (N1 ≠ w3.heap.size ∧ w.heap.size ≤ w3.heap.size) := Lib.hid ⟨by have := HX.out.lt; have := hb3.size; omega, by have := HB1.out.size; have := hb3.size; omega⟩
  simp only at *
  clear hv hb3 hq3 HX HB1 HM2
  go_upto_region 3 with fail
  generalize w3.heap.size = N2 at *
  generalize w3.alloc (.cells #[.int .i64 dk, .int .i64 db, .int .i64 dn, .int .i64 dr, .int .i64 dw, .int .i64 dl, .bool dd] 23) = w4 at *
  have HC1 := Lib.hid fun W => pCoe_any ⟨ck, cb, cn, cr, cw, cl, cd⟩ ⟨dk, db, dn, dr, dw, dl, dd⟩ W
  have HC2 := Lib.hid fun W => pCoe_any ⟨dk, db, dn, dr, dw, dl, dd⟩ ⟨ck, cb, cn, cr, cw, cl, cd⟩ W
  rw [coex_comm ⟨ck, cb, cn, cr, cw, cl, cd⟩ ⟨dk, db, dn, dr, dw, dl, dd⟩] at HC2
  have HAT := Lib.hid fun W => pAtt_any ⟨ck, cb, cn, cr, cw, cl, cd⟩ m W
  unfold attC at HAT
  simp only at HAT
  have HC3 := Lib.hid fun W => pCoe_any ⟨ck, cb, cn, cr, cw, cl, cd⟩ ⟨ck, cb, cn, bits .and .i64 cr m, cw, cl, cd⟩ W
  rw [coex_att] at HC3
  generalize bits .and .i64 cr m = xr at *
  generalize coexB ⟨ck, cb, cn, cr, cw, cl, cd⟩ ⟨dk, db, dn, dr, dw, dl, dd⟩ = q at *
  simp only [GC.val] at *
  have hS := C3D ⟨HB3.out, HX3.out, HY.out⟩
  refine wp_region_growS (S := fun W => Below w.heap.size w W ∧ CB W N1 ⟨ck, cb, cn, cr, cw, cl, cd⟩ ∧ CB W N2 ⟨dk, db, dn, dr, dw, dl, dd⟩) [(0, true), (1, true), (3, true), (4, true), (2, false), (5, false), (6, true), (7, true), (8, true), (9, true), (10, true), (11, false), (12, false), (13, true), (14, true)] (by kernel_rfl) (by kernel_rfl) (by kernel_rfl) (by kernel_rfl) (by intro c a d v w h; cases d <;> exact h) hS ?_
  iterate 4
    (first
      | (refine wpGrowS_float (v := ?_) (by simp only [List.getElem?_toArray, List.getElem?_cons_succ, List.getElem?_cons_zero]; rfl) (by rfl) ?_ ?_
         rotate_left
         · (intro W hW; obtain ⟨p0, p1, p2, p3, p4, p5, p6⟩ := CB.cells (hW.2.1); obtain ⟨q0, q1, q2, q3, q4, q5, q6⟩ := CB.cells (hW.2.2); skip; (try simp only at *); go_simp; try with_reducible rfl)
         simp only [Act.put, List.setIfInBounds_toArray, List.set_cons_zero, List.set_cons_succ])
      | (refine wpGrowS_skip (by simp only [List.getElem?_toArray, List.getElem?_cons_succ, List.getElem?_cons_zero]; rfl) (by rfl) ?_
         simp only [Act.put, List.setIfInBounds_toArray, List.set_cons_zero, List.set_cons_succ]))
  refine wpGrowS_call (by simp only [List.getElem?_toArray, List.getElem?_cons_succ, List.getElem?_cons_zero]; rfl) (by rfl) fun K hK => ?_
  go_simp
  go_fit (HC1.out _)
  rintro e wn ⟨rfl, hbn⟩
  have hSp := hS
  have hS : Below w.heap.size w wn ∧ CB wn N1 ⟨ck, cb, cn, cr, cw, cl, cd⟩ ∧ CB wn N2 ⟨dk, db, dn, dr, dw, dl, dd⟩ := ⟨beln (hS.1) hbn, CB.next (hS.2.1) hbn, CB.next (hS.2.2) hbn⟩
  go_simp
  refine hK _ _ hS ?_
  clear hK K
  try simp only [Act.put, List.setIfInBounds_toArray, List.set_cons_zero, List.set_cons_succ]
  refine wpGrowS_call (by simp only [List.getElem?_toArray, List.getElem?_cons_succ, List.getElem?_cons_zero]; rfl) (by rfl) fun K hK => ?_
  go_simp
  go_fit (HC2.out _)
  rintro e wn ⟨rfl, hbn⟩
  have hSp := hS
  have hS : Below w.heap.size w wn ∧ CB wn N1 ⟨ck, cb, cn, cr, cw, cl, cd⟩ ∧ CB wn N2 ⟨dk, db, dn, dr, dw, dl, dd⟩ := ⟨beln (hS.1) hbn, CB.next (hS.2.1) hbn, CB.next (hS.2.2) hbn⟩
  go_simp
  refine hK _ _ hS ?_
  clear hK K
  try simp only [Act.put, List.setIfInBounds_toArray, List.set_cons_zero, List.set_cons_succ]
  iterate 5
    (first
      | (refine wpGrowS_float (v := ?_) (by simp only [List.getElem?_toArray, List.getElem?_cons_succ, List.getElem?_cons_zero]; rfl) (by rfl) ?_ ?_
         rotate_left
         · (intro W hW; obtain ⟨p0, p1, p2, p3, p4, p5, p6⟩ := CB.cells (hW.2.1); obtain ⟨q0, q1, q2, q3, q4, q5, q6⟩ := CB.cells (hW.2.2); skip; (try simp only at *); go_simp; try with_reducible rfl)
         simp only [Act.put, List.setIfInBounds_toArray, List.set_cons_zero, List.set_cons_succ])
      | (refine wpGrowS_skip (by simp only [List.getElem?_toArray, List.getElem?_cons_succ, List.getElem?_cons_zero]; rfl) (by rfl) ?_
         simp only [Act.put, List.setIfInBounds_toArray, List.set_cons_zero, List.set_cons_succ]))
  refine wpGrowS_call (by simp only [List.getElem?_toArray, List.getElem?_cons_succ, List.getElem?_cons_zero]; rfl) (by rfl) fun K hK => ?_
  go_simp
  go_fit (HAT.out _)
  rintro e wn ⟨rfl, hbn⟩
  have hSp := hS
  have hS : Below w.heap.size w wn ∧ CB wn N1 ⟨ck, cb, cn, cr, cw, cl, cd⟩ ∧ CB wn N2 ⟨dk, db, dn, dr, dw, dl, dd⟩ := ⟨beln (hS.1) hbn, CB.next (hS.2.1) hbn, CB.next (hS.2.2) hbn⟩
  go_simp
  refine hK _ _ hS ?_
  clear hK K
  try simp only [Act.put, List.setIfInBounds_toArray, List.set_cons_zero, List.set_cons_succ]
  refine wpGrowS_call (by simp only [List.getElem?_toArray, List.getElem?_cons_succ, List.getElem?_cons_zero]; rfl) (by rfl) fun K hK => ?_
  go_simp
  go_fit (HC3.out _)
  rintro e wn ⟨rfl, hbn⟩
  have hSp := hS
  have hS : Below w.heap.size w wn ∧ CB wn N1 ⟨ck, cb, cn, cr, cw, cl, cd⟩ ∧ CB wn N2 ⟨dk, db, dn, dr, dw, dl, dd⟩ := ⟨beln (hS.1) hbn, CB.next (hS.2.1) hbn, CB.next (hS.2.2) hbn⟩
  go_simp
  refine hK _ _ hS ?_
  clear hK K
  try simp only [Act.put, List.setIfInBounds_toArray, List.set_cons_zero, List.set_cons_succ]
  iterate 2
    (first
      | (refine wpGrowS_float (v := ?_) (by simp only [List.getElem?_toArray, List.getElem?_cons_succ, List.getElem?_cons_zero]; rfl) (by rfl) ?_ ?_
         rotate_left
         · (intro W hW; obtain ⟨p0, p1, p2, p3, p4, p5, p6⟩ := CB.cells (hW.2.1); obtain ⟨q0, q1, q2, q3, q4, q5, q6⟩ := CB.cells (hW.2.2); skip; (try simp only at *); go_simp; try with_reducible rfl)
         simp only [Act.put, List.setIfInBounds_toArray, List.set_cons_zero, List.set_cons_succ])
      | (refine wpGrowS_skip (by simp only [List.getElem?_toArray, List.getElem?_cons_succ, List.getElem?_cons_zero]; rfl) (by rfl) ?_
         simp only [Act.put, List.setIfInBounds_toArray, List.set_cons_zero, List.set_cons_succ]))
  refine wpGrowS_nil ?_
  have HS9 := Lib.hid hS
  clear hS hSp hbn HC1 HC2 HAT HC3 HB3 HX3 HY
  generalize wn = wz at *
  obtain ⟨y0, y1, y2, y3, y4, y5, y6⟩ := HS9.out.2.1.cells
  obtain ⟨z0, z1, z2, z3, z4, z5, z6⟩ := HS9.out.2.2.cells
  have zf := HS9.out.2.2.frz 1
  simp only at y0 y1 y2 y3 y4 y5 y6 z0 z1 z2 z3 z4 z5 z6
  have HB5 := Lib.hid (HS9.out.1.setCell (p := ⟨N2, 1, none⟩) HNE.out.2 (.int .i64 cb))
  have HX5 := Lib.hid (CB.other (j := 1) (v := .int .i64 cb) HS9.out.2.1 HNE.out.1)
  have HY5 := Lib.hid (HS9.out.2.2.setBase cb)
  clear HS9 HNE
  go_upto_region 6 with fail
  clear y0 y1 y2 y3 y4 y5 y6 z0 z1 z2 z3 z4 z5 z6 zf
  generalize wz.setCell ⟨N2, 1, none⟩ (.int .i64 cb) = w6 at *
  obtain ⟨y0, y1, y2, y3, y4, y5, y6⟩ := HX5.out.cells
  obtain ⟨z0, z1, z2, z3, z4, z5, z6⟩ := HY5.out.cells
  simp only at y0 y1 y2 y3 y4 y5 y6 z0 z1 z2 z3 z4 z5 z6
  by_cases hk1 : ck = 1
  · have g0 : (ck == 1) = true := by simp [hk1]
    clear hk1
    go_wp2_with fail
    go_fit (HAW.out _)
    rintro e we ⟨rfl, hbe⟩
    have HBE := Lib.hid (beln HB5.out hbe)
    clear hbe
    go_wp2
    go_ret
    exact ⟨rfl, HBE.out⟩
  have g0 : (ck == 1) = false := by simp [hk1]
  by_cases hk2 : dk = 1
  · have g1 : (dk == 1) = true := by simp [hk2]
    clear hk1 hk2
    go_wp2_with fail
    go_fit (HAW.out _)
    rintro e we ⟨rfl, hbe⟩
    have HBE := Lib.hid (beln HB5.out hbe)
    clear hbe
    go_wp2
    go_ret
    exact ⟨rfl, HBE.out⟩
  have g1 : (dk == 1) = false := by simp [hk2]
  have HVL := Lib.hid fun W => pVC_any ⟨dk, cb, dn, dr, dw, dl, dd⟩ W
  rcases hvz : vC ⟨dk, cb, dn, dr, dw, dl, dd⟩ with _ | _
  · rw [hvz] at HVL
    simp only [GC.val] at HVL
    clear hk1 hk2 hvz
    go_wp2_with fail
    go_fit (HVL.out _)
    rintro e w7 ⟨rfl, hb7⟩
    have HB7 := Lib.hid (beln HB5.out hb7)
    clear hb7 HVL
    go_wp2_with fail
    go_fit (HAW.out _)
    rintro e we ⟨rfl, hbe⟩
    have HBE := Lib.hid (beln HB7.out hbe)
    clear hbe
    go_wp2
    go_ret
    exact ⟨rfl, HBE.out⟩
  rw [hvz] at HVL
  have HC4 := Lib.hid fun W => pCoe_any ⟨ck, cb, cn, cr, cw, cl, cd⟩ ⟨dk, cb, dn, dr, dw, dl, dd⟩ W
  have HSM := Lib.hid fun W => pSam_any ⟨ck, cb, cn, cr, cw, cl, cd⟩ ⟨dk, cb, dn, dr, dw, dl, dd⟩ W
  rw [coex_base HVX.out hvz rfl hk1 hk2] at HC4
  generalize sameO ⟨ck, cb, cn, cr, cw, cl, cd⟩ ⟨dk, cb, dn, dr, dw, dl, dd⟩ = q2 at *
  simp only [GC.val] at HVL HC4 HSM
  clear hk1 hk2 hvz
  go_wp2_with fail
  go_fit (HVL.out _)
  rintro e w7 ⟨rfl, hb7⟩
  have HB7 := Lib.hid (beln HB5.out hb7)
  have HX7 := Lib.hid (HX5.out.next hb7)
  have HY7 := Lib.hid (HY5.out.next hb7)
  clear hb7 HVL g0 g1 y0 y1 y2 y3 y4 y5 y6 z0 z1 z2 z3 z4 z5 z6 HB5 HX5 HY5 HVX
  go_upto_region 8 with fail
  have hS := C3D ⟨HB7.out, HX7.out, HY7.out⟩
  refine wp_region_growS (S := fun W => Below w.heap.size w W ∧ CB W N1 ⟨ck, cb, cn, cr, cw, cl, cd⟩ ∧ CB W N2 ⟨dk, cb, dn, dr, dw, dl, dd⟩) [(0, true), (1, true), (3, true), (4, true), (2, false), (5, false), (6, true), (7, true), (8, false), (9, true), (10, true)] (by kernel_rfl) (by kernel_rfl) (by kernel_rfl) (by kernel_rfl) (by intro c a d v w h; cases d <;> exact h) hS ?_
  iterate 4
    (first
      | (refine wpGrowS_float (v := ?_) (by simp only [List.getElem?_toArray, List.getElem?_cons_succ, List.getElem?_cons_zero]; rfl) (by rfl) ?_ ?_
         rotate_left
         · (intro W hW; obtain ⟨p0, p1, p2, p3, p4, p5, p6⟩ := CB.cells (hW.2.1); obtain ⟨q0, q1, q2, q3, q4, q5, q6⟩ := CB.cells (hW.2.2); skip; (try simp only at *); go_simp; try with_reducible rfl)
         simp only [Act.put, List.setIfInBounds_toArray, List.set_cons_zero, List.set_cons_succ])
      | (refine wpGrowS_skip (by simp only [List.getElem?_toArray, List.getElem?_cons_succ, List.getElem?_cons_zero]; rfl) (by rfl) ?_
         simp only [Act.put, List.setIfInBounds_toArray, List.set_cons_zero, List.set_cons_succ]))
  refine wpGrowS_call (by simp only [List.getElem?_toArray, List.getElem?_cons_succ, List.getElem?_cons_zero]; rfl) (by rfl) fun K hK => ?_
  go_simp
  go_fit (HC4.out _)
  rintro e wn ⟨rfl, hbn⟩
  have hSp := hS
  have hS : Below w.heap.size w wn ∧ CB wn N1 ⟨ck, cb, cn, cr, cw, cl, cd⟩ ∧ CB wn N2 ⟨dk, cb, dn, dr, dw, dl, dd⟩ := ⟨beln (hS.1) hbn, CB.next (hS.2.1) hbn, CB.next (hS.2.2) hbn⟩
  go_simp
  refine hK _ _ hS ?_
  clear hK K
  try simp only [Act.put, List.setIfInBounds_toArray, List.set_cons_zero, List.set_cons_succ]
  refine wpGrowS_call (by simp only [List.getElem?_toArray, List.getElem?_cons_succ, List.getElem?_cons_zero]; rfl) (by rfl) fun K hK => ?_
  go_simp
  go_fit (HSM.out _)
  rintro e wn ⟨rfl, hbn⟩
  have hSp := hS
  have hS : Below w.heap.size w wn ∧ CB wn N1 ⟨ck, cb, cn, cr, cw, cl, cd⟩ ∧ CB wn N2 ⟨dk, cb, dn, dr, dw, dl, dd⟩ := ⟨beln (hS.1) hbn, CB.next (hS.2.1) hbn, CB.next (hS.2.2) hbn⟩
  go_simp
  refine hK _ _ hS ?_
  clear hK K
  try simp only [Act.put, List.setIfInBounds_toArray, List.set_cons_zero, List.set_cons_succ]
  iterate 2
    (first
      | (refine wpGrowS_float (v := ?_) (by simp only [List.getElem?_toArray, List.getElem?_cons_succ, List.getElem?_cons_zero]; rfl) (by rfl) ?_ ?_
         rotate_left
         · (intro W hW; obtain ⟨p0, p1, p2, p3, p4, p5, p6⟩ := CB.cells (hW.2.1); obtain ⟨q0, q1, q2, q3, q4, q5, q6⟩ := CB.cells (hW.2.2); skip; (try simp only at *); go_simp; try with_reducible rfl)
         simp only [Act.put, List.setIfInBounds_toArray, List.set_cons_zero, List.set_cons_succ])
      | (refine wpGrowS_skip (by simp only [List.getElem?_toArray, List.getElem?_cons_succ, List.getElem?_cons_zero]; rfl) (by rfl) ?_
         simp only [Act.put, List.setIfInBounds_toArray, List.set_cons_zero, List.set_cons_succ]))
  refine wpGrowS_call (by simp only [List.getElem?_toArray, List.getElem?_cons_succ, List.getElem?_cons_zero]; rfl) (by rfl) fun K hK => ?_
  go_simp
  go_fit (HAW.out _)
  rintro e wn ⟨rfl, hbn⟩
  have hSp := hS
  have hS : Below w.heap.size w wn ∧ CB wn N1 ⟨ck, cb, cn, cr, cw, cl, cd⟩ ∧ CB wn N2 ⟨dk, cb, dn, dr, dw, dl, dd⟩ := ⟨beln (hS.1) hbn, CB.next (hS.2.1) hbn, CB.next (hS.2.2) hbn⟩
  go_simp
  refine hK _ _ hS ?_
  clear hK K
  try simp only [Act.put, List.setIfInBounds_toArray, List.set_cons_zero, List.set_cons_succ]
  iterate 2
    (first
      | (refine wpGrowS_float (v := ?_) (by simp only [List.getElem?_toArray, List.getElem?_cons_succ, List.getElem?_cons_zero]; rfl) (by rfl) ?_ ?_
         rotate_left
         · (intro W hW; obtain ⟨p0, p1, p2, p3, p4, p5, p6⟩ := CB.cells (hW.2.1); obtain ⟨q0, q1, q2, q3, q4, q5, q6⟩ := CB.cells (hW.2.2); skip; (try simp only at *); go_simp; try with_reducible rfl)
         simp only [Act.put, List.setIfInBounds_toArray, List.set_cons_zero, List.set_cons_succ])
      | (refine wpGrowS_skip (by simp only [List.getElem?_toArray, List.getElem?_cons_succ, List.getElem?_cons_zero]; rfl) (by rfl) ?_
         simp only [Act.put, List.setIfInBounds_toArray, List.set_cons_zero, List.set_cons_succ]))
  refine wpGrowS_nil ?_
  have HE := Lib.hid hS.1
  clear hS hSp hbn HC4 HSM HAW HB7 HX7 HY7
  generalize wn = wz at *
  go_wp2
  go_ret
  exact ⟨rfl, HE.out⟩
end Go.Proofs.Ytpjakfbjiioflaa
