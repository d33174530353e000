/-
  The law NodeLineage returns true.
  Conditions: none.
-/
import Derived.Test.YtndppbfdcceflaaNlg
import Derived.Test.YtndppbfdcceflaaNol
namespace Go.Proofs.Ytndppbfdcceflaa
open Go.RowKit

set_option maxRecDepth 20000 in
set_option maxHeartbeats 4000000 in
theorem llin12 (i1 i2 i3 : Int) (a : Option Addr) (len cap : Nat) (zs : List Int) (id other : GId) (w : World) (h1 : IRow w w.heap.size a len cap zs) : Calls Try.prog 3 #[.int .i64 i1, .int .i64 i2, .int .i64 i3, .slice a len cap, id.val, other.val] w fun e w' => e = .returned (.bool true) ∧ Below w.heap.size w w' := by
  have HAW := Lib.hid fun W => awake12 W
  have HPG := Lib.hid fun W => rPage W
  have HR1 := Lib.hid fun W (hW : Below w.heap.size w W) => (show IRow W W.heap.size a len cap zs from ⟨h1.count, h1.le, h1.max, fun hn => by
    obtain ⟨b, off, e, hb, hc⟩ := h1.row hn
    exact ⟨b, off, e, by have := hW.size; omega, fun i hi => (hW.cell (p := ⟨b, off + i, none⟩) hb).trans (hc i hi)⟩, h1.wf⟩)
  have HMN := Lib.hid fun W (hW : Below w.heap.size w W) (hl : len ≤ 40) => mNode_any i1 i2 i3 a len cap zs pgC W (HR1.out W hW) hl vC_pg
  unfold MNode at HMN
  simp only [GC.val, pgC] at HPG HMN
  have HI0 := Lib.hid ((IB.new w id).next (belt (Below.refl _ _) (.cells #[.int .i64 other.core, .int .i64 other.op, .int .i64 other.part] 24)))
  have HJ0 := Lib.hid (IB.new (w.alloc (.cells #[.int .i64 id.core, .int .i64 id.op, .int .i64 id.part] 24)) other)
  simp only [World.size_alloc] at HJ0
  have HB0 := Lib.hid (belt (belt (Below.refl _ w) (.cells #[.int .i64 id.core, .int .i64 id.op, .int .i64 id.part] 24)) (.cells #[.int .i64 other.core, .int .i64 other.op, .int .i64 other.part] 24))
  clear h1 HR1
  unfold GId.val
  go_enter Try.func3, Try.ntmps3
  by_cases h40 : 40 < len
  · have f1 : decide ((40 : Int) < (len : Int)) = true := by simp; omega
    clear h40 HMN
    go_wp2_with fail
    go_fit (HAW.out _)
    rintro e w1 ⟨rfl, hb1⟩
    have HB1 := Lib.hid (beln HB0.out hb1)
    clear hb1
    go_wp2
    go_ret
    exact ⟨rfl, HB1.out⟩
  have f1 : decide ((40 : Int) < (len : Int)) = false := by simp; omega
  replace HMN := Lib.hid fun W (hW : Below w.heap.size w W) => HMN.out W hW (by omega)
  clear h40
  go_wp2_with fail
  go_fit (HPG.out _)
  rintro e w1 ⟨rfl, hb1⟩
  have HB1 := Lib.hid (beln HB0.out hb1)
  have HI1 := Lib.hid (HI0.out.next hb1)
  have HJ1 := Lib.hid (HJ0.out.next hb1)
  clear hb1 HB0 HI0 HJ0
  go_wp2_with fail
  go_fit (HMN.out _ HB1.out)
  rintro e w2 ⟨s, A5, c5, rfl, hc5, hcp, hvs, ho2, hb2⟩
  have hx2 := belt (Below.refl _ w2) (.cells #[.int .i64 s.id.core, .int .i64 s.id.op, .int .i64 s.id.part, .slice A5 s.path.length c5, .int .i64 s.cap.kind, .int .i64 s.cap.base, .int .i64 s.cap.bits, .int .i64 s.cap.rights, .int .i64 s.cap.width, .int .i64 s.cap.level, .bool s.cap.device] 30)
  have HNM := Lib.hid (NB.new w2 s.id A5 s.path.length c5 s.cap)
  have HRX := Lib.hid ((OwnG.rowAt GId.len ho2).2.next hx2)
  have HI2 := Lib.hid ((HI1.out.next hb2).next hx2)
  have HJ2 := Lib.hid ((HJ1.out.next hb2).next hx2)
  have HB := Lib.hid (beln (beln HB1.out hb2) hx2)
  have HV := Lib.hid hvs
  have HCL := Lib.hid fun h => ch_line (s := s) (i := id) (c := pgC) h
  have HCZ := Lib.hid fun h => ch_zero (s := s) (i := id) (c := pgC) h
  have hs8 := (vN_facts hvs).2.2.1
  try unfold GN.val
  clear ho2 hb2 hx2 hvs hcp HB1 HI1 HJ1 HMN
  go_upto_region 4 with fail
  generalize w2.alloc (.cells #[.int .i64 s.id.core, .int .i64 s.id.op, .int .i64 s.id.part, .slice A5 s.path.length c5, .int .i64 s.cap.kind, .int .i64 s.cap.base, .int .i64 s.cap.bits, .int .i64 s.cap.rights, .int .i64 s.cap.width, .int .i64 s.cap.level, .bool s.cap.device] 30) = w9 at *
  generalize w2.heap.size = M at *
  have HCH := Lib.hid fun W (hW : Below w9.heap.size w9 W) => pChi_any s A5 c5 id pgC W (HRX.out.next hW) (by omega) hc5
  unfold ChEnd at HCH
  generalize chE s id pgC = q at *
  generalize chN s id pgC = y at *
  obtain ⟨⟨s0, s1, s2⟩, ss, ⟨a0, a1, a2, a3, a4, a5, a6⟩⟩ := s
  obtain ⟨⟨y0, y1, y2⟩, ys, ⟨b0, b1, b2, b3, b4, b5, b6⟩⟩ := y
  obtain ⟨k0, k1, k2⟩ := id
  obtain ⟨r0, r1, r2⟩ := other
  simp only [GN.val, GId.val, GC.val, pgC] at *
  obtain ⟨d0, d1, d2, d3, d4, d5, d6, d7, d8, d9, d10⟩ := HNM.out.cells
  have hMl := HNM.out.lt
  obtain ⟨j0, j1, j2⟩ := HI2.out.cells
  have hIl := HI2.out.lt
  simp only at d0 d1 d2 d3 d4 d5 d6 d7 d8 d9 d10 j0 j1 j2
  have hS := (Below.refl w9.heap.size w9).drew
  refine wp_region_gt (S := fun W => Below w9.heap.size w9 W) (.fl 0 (.fl 1 (.two 2 7 (.two 3 7 (.fl 4 (.fl 5 (.fl 6 (.op 7 (.op 8 (.fl 9 .nil)))))) (.op 3 (.fl 4 (.fl 5 (.fl 6 (.op 8 (.fl 9 .nil))))))) (.op 2 (.op 3 (.fl 4 (.fl 5 (.fl 6 (.op 8 (.fl 9 .nil)))))))))) (by kernel_rfl) (by kernel_rfl) (by kernel_rfl) (by kernel_rfl) (by intro c a d v w h; cases d <;> exact h) hS ?_
  iterate 2
    (first
      | (refine wpGT_float (v := ?_) (by simp only [List.getElem?_toArray, List.getElem?_cons_succ, List.getElem?_cons_zero]; rfl) (by rfl) ?_ ?_
         rotate_left
         · (intro W hW; have t0 := (hW.cell (p := ⟨M, 0, none⟩) hMl).trans d0; have t1 := (hW.cell (p := ⟨M, 1, none⟩) hMl).trans d1; have t2 := (hW.cell (p := ⟨M, 2, none⟩) hMl).trans d2; have t3 := (hW.cell (p := ⟨M, 3, none⟩) hMl).trans d3; have t4 := (hW.cell (p := ⟨M, 4, none⟩) hMl).trans d4; have t5 := (hW.cell (p := ⟨M, 5, none⟩) hMl).trans d5; have t6 := (hW.cell (p := ⟨M, 6, none⟩) hMl).trans d6; have t7 := (hW.cell (p := ⟨M, 7, none⟩) hMl).trans d7; have t8 := (hW.cell (p := ⟨M, 8, none⟩) hMl).trans d8; have t9 := (hW.cell (p := ⟨M, 9, none⟩) hMl).trans d9; have t10 := (hW.cell (p := ⟨M, 10, none⟩) hMl).trans d10; have u0 := (hW.cell (p := ⟨w.heap.size, 0, none⟩) hIl).trans j0; have u1 := (hW.cell (p := ⟨w.heap.size, 1, none⟩) hIl).trans j1; have u2 := (hW.cell (p := ⟨w.heap.size, 2, none⟩) hIl).trans j2; (try simp only at *); go_simp; try with_reducible rfl)
         simp only [Act.put, List.setIfInBounds_toArray, List.set_cons_zero, List.set_cons_succ])
      | (refine wpGT_skip (by simp only [List.getElem?_toArray, List.getElem?_cons_succ, List.getElem?_cons_zero]; rfl) (by rfl) ?_
         simp only [Act.put, List.setIfInBounds_toArray, List.set_cons_zero, List.set_cons_succ]))
  refine wpGT_two ?_ ?_
  · refine wpOp_call (by simp only [List.getElem?_toArray, List.getElem?_cons_succ, List.getElem?_cons_zero]; rfl) (by rfl) fun K hK => ?_
    go_simp
    go_fit (HPG.out _)
    rintro e wp ⟨rfl, hbp⟩
    have hS1 : Below w9.heap.size w9 wp := beln hS hbp
    go_simp
    refine hK _ _ hS1 ?_
    clear hK K
    try simp only [Act.put, List.setIfInBounds_toArray, List.set_cons_zero, List.set_cons_succ]
    refine wpGT_two ?_ ?_
    · refine wpOp_call (by simp only [List.getElem?_toArray, List.getElem?_cons_succ, List.getElem?_cons_zero]; rfl) (by rfl) fun K hK => ?_
      go_simp
      go_fit (HCH.out _ hS1)
      rintro e wn ⟨A9, c9, rfl, hc9, ho9, hbn⟩
      have hS2 : Below w9.heap.size w9 wn := beln hS1 hbn
      have HO9 := Lib.hid (OwnG.alloc (OwnG.low (b' := M + 1) ho9 (by have := hS1.size; have := hMl; omega)) (.cells #[.int .i64 y0, .int .i64 y1, .int .i64 y2, .slice A9 ys.length c9, .int .i64 b0, .int .i64 b1, .int .i64 b2, .int .i64 b3, .int .i64 b4, .int .i64 b5, .bool b6] 30))
      go_simp
      refine hK _ _ hS2 ?_
      clear hK K
      try simp only [Act.put, List.setIfInBounds_toArray, List.set_cons_zero, List.set_cons_succ]
      iterate 3
        (first
          | (refine wpGT_float (v := ?_) (by simp only [List.getElem?_toArray, List.getElem?_cons_succ, List.getElem?_cons_zero]; rfl) (by rfl) ?_ ?_
             rotate_left
             · (intro W hW; skip; go_simp; try with_reducible rfl)
             simp only [Act.put, List.setIfInBounds_toArray, List.set_cons_zero, List.set_cons_succ])
          | (refine wpGT_skip (by simp only [List.getElem?_toArray, List.getElem?_cons_succ, List.getElem?_cons_zero]; rfl) (by rfl) ?_
             simp only [Act.put, List.setIfInBounds_toArray, List.set_cons_zero, List.set_cons_succ]))
      refine wpGT_call (by simp only [List.getElem?_toArray, List.getElem?_cons_succ, List.getElem?_cons_zero]; rfl) (by rfl) fun K hK => ?_
      go_simp
      refine hK _ _ (belt hS2 _) ?_
      clear hK K
      try simp only [Act.put, List.setIfInBounds_toArray, List.set_cons_zero, List.set_cons_succ]
      refine wpGT_call (by simp only [List.getElem?_toArray, List.getElem?_cons_succ, List.getElem?_cons_zero]; rfl) (by rfl) fun K hK => ?_
      go_simp
      refine hK _ _ (belt hS2 _) ?_
      clear hK K
      try simp only [Act.put, List.setIfInBounds_toArray, List.set_cons_zero, List.set_cons_succ]
      iterate 1
        (first
          | (refine wpGT_float (v := ?_) (by simp only [List.getElem?_toArray, List.getElem?_cons_succ, List.getElem?_cons_zero]; rfl) (by rfl) ?_ ?_
             rotate_left
             · (intro W hW; skip; go_simp; try with_reducible rfl)
             simp only [Act.put, List.setIfInBounds_toArray, List.set_cons_zero, List.set_cons_succ])
          | (refine wpGT_skip (by simp only [List.getElem?_toArray, List.getElem?_cons_succ, List.getElem?_cons_zero]; rfl) (by rfl) ?_
             simp only [Act.put, List.setIfInBounds_toArray, List.set_cons_zero, List.set_cons_succ]))
      have HB9 : Hid (Below w9.heap.size w9 (wn.alloc (.cells #[.int .i64 y0, .int .i64 y1, .int .i64 y2, .slice A9 ys.length c9, .int .i64 b0, .int .i64 b1, .int .i64 b2, .int .i64 b3, .int .i64 b4, .int .i64 b5, .bool b6] 30))) := Lib.hid (belt hS2 _)
      have HN9 : Hid (NB (wn.alloc (.cells #[.int .i64 y0, .int .i64 y1, .int .i64 y2, .slice A9 ys.length c9, .int .i64 b0, .int .i64 b1, .int .i64 b2, .int .i64 b3, .int .i64 b4, .int .i64 b5, .bool b6] 30)) wn.heap.size ⟨y0, y1, y2⟩ A9 ys.length c9 ⟨b0, b1, b2, b3, b4, b5, b6⟩) := Lib.hid (NB.new wn ⟨y0, y1, y2⟩ A9 ys.length c9 ⟨b0, b1, b2, b3, b4, b5, b6⟩)
      have HBX := Lib.hid (beln HB.out HB9.out)
      have HM9 := Lib.hid (HNM.out.next HB9.out)
      have HI9 := Lib.hid (HI2.out.next HB9.out)
      have HJ9 := Lib.hid (HJ2.out.next HB9.out)
      have HRS := Lib.hid (HRX.out.next HB9.out)
      clear HB9 hS hS1 hS2 hbp hbn ho9
      generalize wn.alloc (.cells #[.int .i64 y0, .int .i64 y1, .int .i64 y2, .slice A9 ys.length c9, .int .i64 b0, .int .i64 b1, .int .i64 b2, .int .i64 b3, .int .i64 b4, .int .i64 b5, .bool b6] 30) = wq at *
      generalize wn.heap.size = Q at *
      refine wpGT_nil ?_
      have HNQ := Lib.hid (show NB wq Q ⟨y0, y1, y2⟩ A9 ys.length c9 ⟨b0, b1, b2, b3, b4, b5, b6⟩ from HN9.out)
      clear HN9 HNM HB d0 d1 d2 d3 d4 d5 d6 d7 d8 d9 d10 j0 j1 j2 hMl hIl HCH HI2 HJ2 HRX
      have HRY := Lib.hid (OwnG.rowAt GId.len HO9.out).2
      obtain ⟨e0, e1, e2, e3, e4, e5, e6, e7, e8, e9, e10⟩ := HNQ.out.cells
      simp only at e0 e1 e2 e3 e4 e5 e6 e7 e8 e9 e10
      by_cases hq : q = 0
      rotate_left
      · have hz := HCZ.out hq
        have fq : (q != 0) = true := by simpa using hq
        simp only [zN, GN.mk.injEq, GId.mk.injEq] at hz
        obtain ⟨⟨rfl, rfl, rfl⟩, rfl, _⟩ := hz
        have heq : ∀ W, (Op.equalIn 10000 24 (.agg #[.int .i64 0, .int .i64 0, .int .i64 0]) (.agg #[.int .i64 0, .int .i64 0, .int .i64 0])).run Try.prog W = .ok true W := fun W => id_eql ⟨0, 0, 0⟩ ⟨0, 0, 0⟩ W
        clear hq HCL HCZ
        go_wp2_with fail
        go_fit (HAW.out _)
        rintro e w7 ⟨rfl, hb7⟩
        have HB7 := Lib.hid (beln HBX.out hb7)
        clear hb7
        go_wp2
        go_ret
        exact ⟨rfl, HB7.out⟩
      · subst hq
        obtain ⟨hv, hid, hcap, hh, hln⟩ := HCL.out rfl
        simp only [GId.mk.injEq] at hid
        simp only [GC.mk.injEq] at hcap
        obtain ⟨rfl, rfl, rfl⟩ := hid
        obtain ⟨rfl, rfl, rfl, rfl, rfl, rfl, rfl⟩ := hcap
        have hys8 := (vN_facts hv).2.2.1
        simp only at hys8 hh hln
        have hQl := HNQ.out.lt
        have hMl := HM9.out.lt
        obtain ⟨d0, d1, d2, d3, d4, d5, d6, d7, d8, d9, d10⟩ := HM9.out.cells
        obtain ⟨j0, j1, j2⟩ := HI9.out.cells
        obtain ⟨k0, k1, k2⟩ := HJ9.out.cells
        have hIl := HI9.out.lt
        have hJl := HJ9.out.lt
        simp only at d0 d1 d2 d3 d4 d5 d6 d7 d8 d9 d10 j0 j1 j2 k0 k1 k2
        have HPV := Lib.hid fun W (hW : Below wq.heap.size wq W) => pVN_any ⟨⟨y0, y1, y2⟩, ys, ⟨2, 4096, 12, 3, 0, 0, false⟩⟩ A9 c9 W (HRY.out.next hW) (by simp only; omega) hc9
        have HBN := Lib.hid fun (i0 i1 i2 : Int) W (hW : Below wq.heap.size wq W) => pBel_any ⟨⟨y0, y1, y2⟩, ys, ⟨2, 4096, 12, 3, 0, 0, false⟩⟩ A9 c9 ⟨i0, i1, i2⟩ W (HRY.out.next hW) (by simp only; omega) hc9
        have HBS := Lib.hid fun (i0 i1 i2 : Int) W (hW : Below wq.heap.size wq W) => pBel_any ⟨⟨s0, s1, s2⟩, ss, ⟨a0, a1, a2, a3, a4, a5, a6⟩⟩ A5 c5 ⟨i0, i1, i2⟩ W (HRS.out.next hW) (by simp only; omega) hc5
        rw [hv] at HPV
        simp only [GN.val, GId.val] at HPV HBN HBS
        have HHH := Lib.hid hh
        have HT1 : Hid (hasI ys ⟨s0, s1, s2⟩ = true) := Lib.hid (by rw [hh, (eqI_iff _ _).2 rfl]; rfl)
        have HE1 : Hid (∀ W, (Op.equalIn 10000 24 (.agg #[.int .i64 y0, .int .i64 y1, .int .i64 y2]) (.agg #[.int .i64 y0, .int .i64 y1, .int .i64 y2])).run Try.prog W = .ok true W) := Lib.hid fun W => by
          have := id_eql ⟨y0, y1, y2⟩ ⟨y0, y1, y2⟩ W
          rw [(eqI_iff _ _).2 rfl] at this
          exact this
        have HE2 : Hid (∀ W, (Op.equalIn 10000 28 (.agg #[.int .i64 2, .int .i64 4096, .int .i64 12, .int .i64 3, .int .i64 0, .int .i64 0, .bool false]) (.agg #[.int .i64 2, .int .i64 4096, .int .i64 12, .int .i64 3, .int .i64 0, .int .i64 0, .bool false])).run Try.prog W = .ok true W) := Lib.hid fun W => cap_eql pgC pgC W
        have HE3 : Hid (∀ W, (Op.equalIn 10000 24 (.agg #[.int .i64 r0, .int .i64 r1, .int .i64 r2]) (.agg #[.int .i64 s0, .int .i64 s1, .int .i64 s2])).run Try.prog W = .ok (eqI ⟨r0, r1, r2⟩ ⟨s0, s1, s2⟩) W) := Lib.hid fun W => id_eql ⟨r0, r1, r2⟩ ⟨s0, s1, s2⟩ W
        clear hv hh hln HCL HCZ HV
        go_upto_region 7 with fail
        have hS := (Below.refl wq.heap.size wq).drew
        refine wp_region_growS (S := fun W => Below wq.heap.size wq W) [(0, true), (1, false), (2, true), (3, true), (4, true), (5, true), (6, true), (7, false), (8, true), (9, true), (10, true), (11, true), (12, true), (13, true), (14, true), (15, true), (16, true), (17, true), (18, true), (19, false), (20, true), (21, true)] (by kernel_rfl) (by kernel_rfl) (by kernel_rfl) (by kernel_rfl) (by intro c a d v w h; cases d <;> exact h) hS ?_
        iterate 1
          (first
            | (refine wpGrowS_float (v := ?_) (by simp only [List.getElem?_toArray, List.getElem?_cons_zero]; rfl) (by rfl) ?_ ?_
               rotate_left
               · (intro W hW; have t0 := (hW.cell (p := ⟨Q, 0, none⟩) hQl).trans e0; have t1 := (hW.cell (p := ⟨Q, 1, none⟩) hQl).trans e1; have t2 := (hW.cell (p := ⟨Q, 2, none⟩) hQl).trans e2; have t3 := (hW.cell (p := ⟨Q, 3, none⟩) hQl).trans e3; have t4 := (hW.cell (p := ⟨Q, 4, none⟩) hQl).trans e4; have t5 := (hW.cell (p := ⟨Q, 5, none⟩) hQl).trans e5; have t6 := (hW.cell (p := ⟨Q, 6, none⟩) hQl).trans e6; have t7 := (hW.cell (p := ⟨Q, 7, none⟩) hQl).trans e7; have t8 := (hW.cell (p := ⟨Q, 8, none⟩) hQl).trans e8; have t9 := (hW.cell (p := ⟨Q, 9, none⟩) hQl).trans e9; have t10 := (hW.cell (p := ⟨Q, 10, none⟩) hQl).trans e10; have v0 := (hW.cell (p := ⟨M, 0, none⟩) hMl).trans d0; have v1 := (hW.cell (p := ⟨M, 1, none⟩) hMl).trans d1; have v2 := (hW.cell (p := ⟨M, 2, none⟩) hMl).trans d2; have v3 := (hW.cell (p := ⟨M, 3, none⟩) hMl).trans d3; have v4 := (hW.cell (p := ⟨M, 4, none⟩) hMl).trans d4; have v5 := (hW.cell (p := ⟨M, 5, none⟩) hMl).trans d5; have v6 := (hW.cell (p := ⟨M, 6, none⟩) hMl).trans d6; have v7 := (hW.cell (p := ⟨M, 7, none⟩) hMl).trans d7; have v8 := (hW.cell (p := ⟨M, 8, none⟩) hMl).trans d8; have v9 := (hW.cell (p := ⟨M, 9, none⟩) hMl).trans d9; have v10 := (hW.cell (p := ⟨M, 10, none⟩) hMl).trans d10; have u0 := (hW.cell (p := ⟨w.heap.size, 0, none⟩) hIl).trans j0; have u1 := (hW.cell (p := ⟨w.heap.size, 1, none⟩) hIl).trans j1; have u2 := (hW.cell (p := ⟨w.heap.size, 2, none⟩) hIl).trans j2; have o0 := (hW.cell (p := ⟨w.heap.size + 1, 0, none⟩) hJl).trans k0; have o1 := (hW.cell (p := ⟨w.heap.size + 1, 1, none⟩) hJl).trans k1; have o2 := (hW.cell (p := ⟨w.heap.size + 1, 2, none⟩) hJl).trans k2; have q1 := fun W => HE1.out W; have q2 := fun W => HE2.out W; have q3 := fun W => HE3.out W; (try simp only at *); go_simp; try with_reducible rfl)
               simp only [Act.put, List.setIfInBounds_toArray, List.set_cons_zero, List.set_cons_succ])
            | (refine wpGrowS_skip (by simp only [List.getElem?_toArray, List.getElem?_cons_zero]; rfl) (by rfl) ?_
               simp only [Act.put, List.setIfInBounds_toArray, List.set_cons_zero, List.set_cons_succ]))
        refine wpGrowS_call (by simp only [List.getElem?_toArray, List.getElem?_cons_succ, List.getElem?_cons_zero]; rfl) (by rfl) fun K hK => ?_
        go_simp
        go_fit (HPV.out _ hS)
        rintro e wn ⟨rfl, hbn⟩
        have hSp := hS
        have hS : Below wq.heap.size wq wn := beln hS hbn
        go_simp
        refine hK _ _ hS ?_
        clear hK K
        try simp only [Act.put, List.setIfInBounds_toArray, List.set_cons_zero, List.set_cons_succ]
        iterate 5
          (first
            | (refine wpGrowS_float (v := ?_) (by simp only [List.getElem?_toArray, List.getElem?_cons_succ, List.getElem?_cons_zero]; rfl) (by rfl) ?_ ?_
               rotate_left
               · (intro W hW; have t0 := (hW.cell (p := ⟨Q, 0, none⟩) hQl).trans e0; have t1 := (hW.cell (p := ⟨Q, 1, none⟩) hQl).trans e1; have t2 := (hW.cell (p := ⟨Q, 2, none⟩) hQl).trans e2; have t3 := (hW.cell (p := ⟨Q, 3, none⟩) hQl).trans e3; have t4 := (hW.cell (p := ⟨Q, 4, none⟩) hQl).trans e4; have t5 := (hW.cell (p := ⟨Q, 5, none⟩) hQl).trans e5; have t6 := (hW.cell (p := ⟨Q, 6, none⟩) hQl).trans e6; have t7 := (hW.cell (p := ⟨Q, 7, none⟩) hQl).trans e7; have t8 := (hW.cell (p := ⟨Q, 8, none⟩) hQl).trans e8; have t9 := (hW.cell (p := ⟨Q, 9, none⟩) hQl).trans e9; have t10 := (hW.cell (p := ⟨Q, 10, none⟩) hQl).trans e10; have v0 := (hW.cell (p := ⟨M, 0, none⟩) hMl).trans d0; have v1 := (hW.cell (p := ⟨M, 1, none⟩) hMl).trans d1; have v2 := (hW.cell (p := ⟨M, 2, none⟩) hMl).trans d2; have v3 := (hW.cell (p := ⟨M, 3, none⟩) hMl).trans d3; have v4 := (hW.cell (p := ⟨M, 4, none⟩) hMl).trans d4; have v5 := (hW.cell (p := ⟨M, 5, none⟩) hMl).trans d5; have v6 := (hW.cell (p := ⟨M, 6, none⟩) hMl).trans d6; have v7 := (hW.cell (p := ⟨M, 7, none⟩) hMl).trans d7; have v8 := (hW.cell (p := ⟨M, 8, none⟩) hMl).trans d8; have v9 := (hW.cell (p := ⟨M, 9, none⟩) hMl).trans d9; have v10 := (hW.cell (p := ⟨M, 10, none⟩) hMl).trans d10; have u0 := (hW.cell (p := ⟨w.heap.size, 0, none⟩) hIl).trans j0; have u1 := (hW.cell (p := ⟨w.heap.size, 1, none⟩) hIl).trans j1; have u2 := (hW.cell (p := ⟨w.heap.size, 2, none⟩) hIl).trans j2; have o0 := (hW.cell (p := ⟨w.heap.size + 1, 0, none⟩) hJl).trans k0; have o1 := (hW.cell (p := ⟨w.heap.size + 1, 1, none⟩) hJl).trans k1; have o2 := (hW.cell (p := ⟨w.heap.size + 1, 2, none⟩) hJl).trans k2; have q1 := fun W => HE1.out W; have q2 := fun W => HE2.out W; have q3 := fun W => HE3.out W; (try simp only at *); go_simp; try with_reducible rfl)
               simp only [Act.put, List.setIfInBounds_toArray, List.set_cons_zero, List.set_cons_succ])
            | (refine wpGrowS_skip (by simp only [List.getElem?_toArray, List.getElem?_cons_succ, List.getElem?_cons_zero]; rfl) (by rfl) ?_
               simp only [Act.put, List.setIfInBounds_toArray, List.set_cons_zero, List.set_cons_succ]))
        refine wpGrowS_call (by simp only [List.getElem?_toArray, List.getElem?_cons_succ, List.getElem?_cons_zero]; rfl) (by rfl) fun K hK => ?_
        go_simp
        go_fit (HBN.out _ _ _ _ hS)
        rintro e wn ⟨rfl, hbn⟩
        have hSp := hS
        have hS : Below wq.heap.size wq wn := beln hS hbn
        rw [HT1.out]
        go_simp
        refine hK _ _ hS ?_
        clear hK K
        try simp only [Act.put, List.setIfInBounds_toArray, List.set_cons_zero, List.set_cons_succ]
        iterate 11
          (first
            | (refine wpGrowS_float (v := ?_) (by simp only [List.getElem?_toArray, List.getElem?_cons_succ, List.getElem?_cons_zero]; rfl) (by rfl) ?_ ?_
               rotate_left
               · (intro W hW; have t0 := (hW.cell (p := ⟨Q, 0, none⟩) hQl).trans e0; have t1 := (hW.cell (p := ⟨Q, 1, none⟩) hQl).trans e1; have t2 := (hW.cell (p := ⟨Q, 2, none⟩) hQl).trans e2; have t3 := (hW.cell (p := ⟨Q, 3, none⟩) hQl).trans e3; have t4 := (hW.cell (p := ⟨Q, 4, none⟩) hQl).trans e4; have t5 := (hW.cell (p := ⟨Q, 5, none⟩) hQl).trans e5; have t6 := (hW.cell (p := ⟨Q, 6, none⟩) hQl).trans e6; have t7 := (hW.cell (p := ⟨Q, 7, none⟩) hQl).trans e7; have t8 := (hW.cell (p := ⟨Q, 8, none⟩) hQl).trans e8; have t9 := (hW.cell (p := ⟨Q, 9, none⟩) hQl).trans e9; have t10 := (hW.cell (p := ⟨Q, 10, none⟩) hQl).trans e10; have v0 := (hW.cell (p := ⟨M, 0, none⟩) hMl).trans d0; have v1 := (hW.cell (p := ⟨M, 1, none⟩) hMl).trans d1; have v2 := (hW.cell (p := ⟨M, 2, none⟩) hMl).trans d2; have v3 := (hW.cell (p := ⟨M, 3, none⟩) hMl).trans d3; have v4 := (hW.cell (p := ⟨M, 4, none⟩) hMl).trans d4; have v5 := (hW.cell (p := ⟨M, 5, none⟩) hMl).trans d5; have v6 := (hW.cell (p := ⟨M, 6, none⟩) hMl).trans d6; have v7 := (hW.cell (p := ⟨M, 7, none⟩) hMl).trans d7; have v8 := (hW.cell (p := ⟨M, 8, none⟩) hMl).trans d8; have v9 := (hW.cell (p := ⟨M, 9, none⟩) hMl).trans d9; have v10 := (hW.cell (p := ⟨M, 10, none⟩) hMl).trans d10; have u0 := (hW.cell (p := ⟨w.heap.size, 0, none⟩) hIl).trans j0; have u1 := (hW.cell (p := ⟨w.heap.size, 1, none⟩) hIl).trans j1; have u2 := (hW.cell (p := ⟨w.heap.size, 2, none⟩) hIl).trans j2; have o0 := (hW.cell (p := ⟨w.heap.size + 1, 0, none⟩) hJl).trans k0; have o1 := (hW.cell (p := ⟨w.heap.size + 1, 1, none⟩) hJl).trans k1; have o2 := (hW.cell (p := ⟨w.heap.size + 1, 2, none⟩) hJl).trans k2; have q1 := fun W => HE1.out W; have q2 := fun W => HE2.out W; have q3 := fun W => HE3.out W; (try simp only at *); go_simp; try with_reducible rfl)
               simp only [Act.put, List.setIfInBounds_toArray, List.set_cons_zero, List.set_cons_succ])
            | (refine wpGrowS_skip (by simp only [List.getElem?_toArray, List.getElem?_cons_succ, List.getElem?_cons_zero]; rfl) (by rfl) ?_
               simp only [Act.put, List.setIfInBounds_toArray, List.set_cons_zero, List.set_cons_succ]))
        refine wpGrowS_call (by simp only [List.getElem?_toArray, List.getElem?_cons_succ, List.getElem?_cons_zero]; rfl) (by rfl) fun K hK => ?_
        go_simp
        go_fit (HPG.out _)
        rintro e wn ⟨rfl, hbn⟩
        have hSp := hS
        have hS : Below wq.heap.size wq wn := beln hS hbn
        go_simp
        refine hK _ _ hS ?_
        clear hK K
        try simp only [Act.put, List.setIfInBounds_toArray, List.set_cons_zero, List.set_cons_succ]
        iterate 2
          (first
            | (refine wpGrowS_float (v := ?_) (by simp only [List.getElem?_toArray, List.getElem?_cons_succ, List.getElem?_cons_zero]; rfl) (by rfl) ?_ ?_
               rotate_left
               · (intro W hW; have t0 := (hW.cell (p := ⟨Q, 0, none⟩) hQl).trans e0; have t1 := (hW.cell (p := ⟨Q, 1, none⟩) hQl).trans e1; have t2 := (hW.cell (p := ⟨Q, 2, none⟩) hQl).trans e2; have t3 := (hW.cell (p := ⟨Q, 3, none⟩) hQl).trans e3; have t4 := (hW.cell (p := ⟨Q, 4, none⟩) hQl).trans e4; have t5 := (hW.cell (p := ⟨Q, 5, none⟩) hQl).trans e5; have t6 := (hW.cell (p := ⟨Q, 6, none⟩) hQl).trans e6; have t7 := (hW.cell (p := ⟨Q, 7, none⟩) hQl).trans e7; have t8 := (hW.cell (p := ⟨Q, 8, none⟩) hQl).trans e8; have t9 := (hW.cell (p := ⟨Q, 9, none⟩) hQl).trans e9; have t10 := (hW.cell (p := ⟨Q, 10, none⟩) hQl).trans e10; have v0 := (hW.cell (p := ⟨M, 0, none⟩) hMl).trans d0; have v1 := (hW.cell (p := ⟨M, 1, none⟩) hMl).trans d1; have v2 := (hW.cell (p := ⟨M, 2, none⟩) hMl).trans d2; have v3 := (hW.cell (p := ⟨M, 3, none⟩) hMl).trans d3; have v4 := (hW.cell (p := ⟨M, 4, none⟩) hMl).trans d4; have v5 := (hW.cell (p := ⟨M, 5, none⟩) hMl).trans d5; have v6 := (hW.cell (p := ⟨M, 6, none⟩) hMl).trans d6; have v7 := (hW.cell (p := ⟨M, 7, none⟩) hMl).trans d7; have v8 := (hW.cell (p := ⟨M, 8, none⟩) hMl).trans d8; have v9 := (hW.cell (p := ⟨M, 9, none⟩) hMl).trans d9; have v10 := (hW.cell (p := ⟨M, 10, none⟩) hMl).trans d10; have u0 := (hW.cell (p := ⟨w.heap.size, 0, none⟩) hIl).trans j0; have u1 := (hW.cell (p := ⟨w.heap.size, 1, none⟩) hIl).trans j1; have u2 := (hW.cell (p := ⟨w.heap.size, 2, none⟩) hIl).trans j2; have o0 := (hW.cell (p := ⟨w.heap.size + 1, 0, none⟩) hJl).trans k0; have o1 := (hW.cell (p := ⟨w.heap.size + 1, 1, none⟩) hJl).trans k1; have o2 := (hW.cell (p := ⟨w.heap.size + 1, 2, none⟩) hJl).trans k2; have q1 := fun W => HE1.out W; have q2 := fun W => HE2.out W; have q3 := fun W => HE3.out W; (try simp only at *); go_simp; try with_reducible rfl)
               simp only [Act.put, List.setIfInBounds_toArray, List.set_cons_zero, List.set_cons_succ])
            | (refine wpGrowS_skip (by simp only [List.getElem?_toArray, List.getElem?_cons_succ, List.getElem?_cons_zero]; rfl) (by rfl) ?_
               simp only [Act.put, List.setIfInBounds_toArray, List.set_cons_zero, List.set_cons_succ]))
        refine wpGrowS_nil ?_
        have HBY := Lib.hid hS
        clear hS e0 e1 e2 e3 e4 e5 e6 e7 e8 e9 e10 d0 d1 d2 d3 d4 d5 d6 d7 d8 d9 d10 j0 j1 j2 k0 k1 k2 HPV HT1 HE2
        go_wp2
        go_loopw [16] (fun vi wr => ∃ k : Nat, vi = .int .i64 k ∧ k ≤ ss.length ∧ Hid (Below wq.heap.size wq wr)) (fun vi _ => ss.length - (intOf vi).toNat)
        case atStart => exact ⟨0, rfl, Nat.zero_le _, HBY⟩
        case round =>
          obtain ⟨k, rfl, hk, HB⟩ := hrel
          have HNR := Lib.hid (HNQ.out.next HB.out)
          have HMR := Lib.hid (HM9.out.next HB.out)
          have HIR := Lib.hid (HI9.out.next HB.out)
          have HJR := Lib.hid (HJ9.out.next HB.out)
          have hQr := HNR.out.lt
          have hMr := HMR.out.lt
          have hIr := HIR.out.lt
          have hJr := HJR.out.lt
          obtain ⟨f0, f1, f2, f3, f4, f5, f6, f7, f8, f9, f10⟩ := HNR.out.cells
          obtain ⟨g0, g1, g2, g3, g4, g5, g6, g7, g8, g9, g10⟩ := HMR.out.cells
          obtain ⟨j0, j1, j2⟩ := HIR.out.cells
          obtain ⟨k0, k1, k2⟩ := HJR.out.cells
          simp only at f0 f1 f2 f3 f4 f5 f6 f7 f8 f9 f10 g0 g1 g2 g3 g4 g5 g6 g7 g8 g9 g10 j0 j1 j2 k0 k1 k2
          rcases Nat.lt_or_ge k ss.length with hlt | hge
          · obtain ⟨b1, o1, rfl, hb1, x0, x1, x2⟩ := (HRS.out.next HB.out).gid hlt
            have HT2 : Hid (hasI ys ss[k] = true) := Lib.hid (by
              rw [HHH.out]
              have : hasI ss ss[k] = true := by unfold hasI; simp
              rw [this, Bool.or_true])
            generalize ss[k] = z at *
            obtain ⟨z0, z1, z2⟩ := z
            simp only at x0 x1 x2
            have HBM := Lib.hid fun W (hW : Below wr.heap.size wr W) => HBN.out z0 z1 z2 W (beln HB.out hW)
            clear j0 j1 j2 k0 k1 k2
            go_upto_region 12 with fail
            have hS := (Below.refl wr.heap.size wr).drew
            have hk0 : 0 ≤ (k : Int) := by omega
            have hk1 : (k : Int) < (ss.length : Int) := by omega
            have hk2 : (k : Int).toNat = k := by omega
            refine wp_region_growS (S := fun W => Below wr.heap.size wr W) [(0, true), (1, true), (2, true), (3, true), (4, true), (5, true), (6, false), (7, true)] (by kernel_rfl) (by kernel_rfl) (by kernel_rfl) (by kernel_rfl) (by intro c a d v w h; cases d <;> exact h) hS ?_
            iterate 6
              (first
                | (refine wpGrowS_float (v := ?_) (by simp only [List.getElem?_toArray, List.getElem?_cons_succ, List.getElem?_cons_zero]; rfl) (by rfl) ?_ ?_
                   rotate_left
                   · (intro W hW; have t0 := (hW.cell (p := ⟨Q, 0, none⟩) hQr).trans f0; have t1 := (hW.cell (p := ⟨Q, 1, none⟩) hQr).trans f1; have t2 := (hW.cell (p := ⟨Q, 2, none⟩) hQr).trans f2; have t3 := (hW.cell (p := ⟨Q, 3, none⟩) hQr).trans f3; have t4 := (hW.cell (p := ⟨Q, 4, none⟩) hQr).trans f4; have t5 := (hW.cell (p := ⟨Q, 5, none⟩) hQr).trans f5; have t6 := (hW.cell (p := ⟨Q, 6, none⟩) hQr).trans f6; have t7 := (hW.cell (p := ⟨Q, 7, none⟩) hQr).trans f7; have t8 := (hW.cell (p := ⟨Q, 8, none⟩) hQr).trans f8; have t9 := (hW.cell (p := ⟨Q, 9, none⟩) hQr).trans f9; have t10 := (hW.cell (p := ⟨Q, 10, none⟩) hQr).trans f10; have v0 := (hW.cell (p := ⟨M, 0, none⟩) hMr).trans g0; have v1 := (hW.cell (p := ⟨M, 1, none⟩) hMr).trans g1; have v2 := (hW.cell (p := ⟨M, 2, none⟩) hMr).trans g2; have v3 := (hW.cell (p := ⟨M, 3, none⟩) hMr).trans g3; have v4 := (hW.cell (p := ⟨M, 4, none⟩) hMr).trans g4; have v5 := (hW.cell (p := ⟨M, 5, none⟩) hMr).trans g5; have v6 := (hW.cell (p := ⟨M, 6, none⟩) hMr).trans g6; have v7 := (hW.cell (p := ⟨M, 7, none⟩) hMr).trans g7; have v8 := (hW.cell (p := ⟨M, 8, none⟩) hMr).trans g8; have v9 := (hW.cell (p := ⟨M, 9, none⟩) hMr).trans g9; have v10 := (hW.cell (p := ⟨M, 10, none⟩) hMr).trans g10; have x0' := (hW.cell (p := ⟨b1, o1 + k * 3, none⟩) hb1).trans x0; have x1' := (hW.cell (p := ⟨b1, o1 + k * 3 + 1, none⟩) hb1).trans x1; have x2' := (hW.cell (p := ⟨b1, o1 + k * 3 + 2, none⟩) hb1).trans x2; (try simp only at *); go_simp; try with_reducible rfl)
                   simp only [Act.put, List.setIfInBounds_toArray, List.set_cons_zero, List.set_cons_succ])
                | (refine wpGrowS_skip (by simp only [List.getElem?_toArray, List.getElem?_cons_succ, List.getElem?_cons_zero]; rfl) (by rfl) ?_
                   simp only [Act.put, List.setIfInBounds_toArray, List.set_cons_zero, List.set_cons_succ]))
            refine wpGrowS_call (by simp only [List.getElem?_toArray, List.getElem?_cons_succ, List.getElem?_cons_zero]; rfl) (by rfl) fun K hK => ?_
            go_simp
            go_fit (HBM.out _ hS)
            rintro e wn ⟨rfl, hbn⟩
            have hSp := hS
            have hS : Below wr.heap.size wr wn := beln hS hbn
            rw [HT2.out]
            go_simp
            refine hK _ _ hS ?_
            clear hK K
            try simp only [Act.put, List.setIfInBounds_toArray, List.set_cons_zero, List.set_cons_succ]
            iterate 1
              (first
                | (refine wpGrowS_float (v := ?_) (by simp only [List.getElem?_toArray, List.getElem?_cons_succ, List.getElem?_cons_zero]; rfl) (by rfl) ?_ ?_
                   rotate_left
                   · (intro W hW; have t0 := (hW.cell (p := ⟨Q, 0, none⟩) hQr).trans f0; have t1 := (hW.cell (p := ⟨Q, 1, none⟩) hQr).trans f1; have t2 := (hW.cell (p := ⟨Q, 2, none⟩) hQr).trans f2; have t3 := (hW.cell (p := ⟨Q, 3, none⟩) hQr).trans f3; have t4 := (hW.cell (p := ⟨Q, 4, none⟩) hQr).trans f4; have t5 := (hW.cell (p := ⟨Q, 5, none⟩) hQr).trans f5; have t6 := (hW.cell (p := ⟨Q, 6, none⟩) hQr).trans f6; have t7 := (hW.cell (p := ⟨Q, 7, none⟩) hQr).trans f7; have t8 := (hW.cell (p := ⟨Q, 8, none⟩) hQr).trans f8; have t9 := (hW.cell (p := ⟨Q, 9, none⟩) hQr).trans f9; have t10 := (hW.cell (p := ⟨Q, 10, none⟩) hQr).trans f10; have v0 := (hW.cell (p := ⟨M, 0, none⟩) hMr).trans g0; have v1 := (hW.cell (p := ⟨M, 1, none⟩) hMr).trans g1; have v2 := (hW.cell (p := ⟨M, 2, none⟩) hMr).trans g2; have v3 := (hW.cell (p := ⟨M, 3, none⟩) hMr).trans g3; have v4 := (hW.cell (p := ⟨M, 4, none⟩) hMr).trans g4; have v5 := (hW.cell (p := ⟨M, 5, none⟩) hMr).trans g5; have v6 := (hW.cell (p := ⟨M, 6, none⟩) hMr).trans g6; have v7 := (hW.cell (p := ⟨M, 7, none⟩) hMr).trans g7; have v8 := (hW.cell (p := ⟨M, 8, none⟩) hMr).trans g8; have v9 := (hW.cell (p := ⟨M, 9, none⟩) hMr).trans g9; have v10 := (hW.cell (p := ⟨M, 10, none⟩) hMr).trans g10; have x0' := (hW.cell (p := ⟨b1, o1 + k * 3, none⟩) hb1).trans x0; have x1' := (hW.cell (p := ⟨b1, o1 + k * 3 + 1, none⟩) hb1).trans x1; have x2' := (hW.cell (p := ⟨b1, o1 + k * 3 + 2, none⟩) hb1).trans x2; (try simp only at *); go_simp; try with_reducible rfl)
                   simp only [Act.put, List.setIfInBounds_toArray, List.set_cons_zero, List.set_cons_succ])
                | (refine wpGrowS_skip (by simp only [List.getElem?_toArray, List.getElem?_cons_succ, List.getElem?_cons_zero]; rfl) (by rfl) ?_
                   simp only [Act.put, List.setIfInBounds_toArray, List.set_cons_zero, List.set_cons_succ]))
            refine wpGrowS_nil ?_
            have HBZ := Lib.hid (beln HB.out hS)
            clear hS f0 f1 f2 f3 f4 f5 f6 f7 f8 f9 f10 g0 g1 g2 g3 g4 g5 g6 g7 g8 g9 g10 x0 x1 x2
            go_wp2
            go_roundw
            case rel => exact ⟨k + 1, by go_num, by omega, HBZ⟩
            case measure => simp [intOf]; omega
          · rcases he : eqI ⟨r0, r1, r2⟩ ⟨s0, s1, s2⟩ with _ | _
            · have HBN2 := Lib.hid fun W (hW : Below wq.heap.size wq W) => HBN.out r0 r1 r2 W hW
              have HBS2 := Lib.hid fun W (hW : Below wq.heap.size wq W) => HBS.out r0 r1 r2 W hW
              rw [HHH.out, he, Bool.false_or] at HBN2
              rw [he] at HE3
              clear he HBN HBS HHH
              generalize hasI ss ⟨r0, r1, r2⟩ = bb at *
              have fbb : (bb == bb) = true := by simp
              go_upto_region 14 with fail
              clear f0 f1 f2 f3 f4 f5 f6 f7 f8 f9 f10 g0 g1 g2 g3 g4 g5 g6 g7 g8 g9 g10 j0 j1 j2 k0 k1 k2
              obtain ⟨e0, e1, e2, e3, e4, e5, e6, e7, e8, e9, e10⟩ := HNQ.out.cells
              obtain ⟨d0, d1, d2, d3, d4, d5, d6, d7, d8, d9, d10⟩ := HM9.out.cells
              obtain ⟨j0, j1, j2⟩ := HI9.out.cells
              obtain ⟨k0, k1, k2⟩ := HJ9.out.cells
              simp only at e0 e1 e2 e3 e4 e5 e6 e7 e8 e9 e10 d0 d1 d2 d3 d4 d5 d6 d7 d8 d9 d10 j0 j1 j2 k0 k1 k2
              have hS := HB.out.drew
              refine wp_region_growS (S := fun W => Below wq.heap.size wq W) [(0, true), (1, true), (3, true), (4, true), (5, true), (6, true), (2, false), (7, true), (8, true), (9, true), (10, false), (11, true), (12, true), (13, true), (14, false), (15, true), (16, true)] (by kernel_rfl) (by kernel_rfl) (by kernel_rfl) (by kernel_rfl) (by intro c a d v w h; cases d <;> exact h) hS ?_
              iterate 6
                (first
                  | (refine wpGrowS_float (v := ?_) (by simp only [List.getElem?_toArray, List.getElem?_cons_succ, List.getElem?_cons_zero]; rfl) (by rfl) ?_ ?_
                     rotate_left
                     · (intro W hW; have t0 := (hW.cell (p := ⟨Q, 0, none⟩) hQl).trans e0; have t1 := (hW.cell (p := ⟨Q, 1, none⟩) hQl).trans e1; have t2 := (hW.cell (p := ⟨Q, 2, none⟩) hQl).trans e2; have t3 := (hW.cell (p := ⟨Q, 3, none⟩) hQl).trans e3; have t4 := (hW.cell (p := ⟨Q, 4, none⟩) hQl).trans e4; have t5 := (hW.cell (p := ⟨Q, 5, none⟩) hQl).trans e5; have t6 := (hW.cell (p := ⟨Q, 6, none⟩) hQl).trans e6; have t7 := (hW.cell (p := ⟨Q, 7, none⟩) hQl).trans e7; have t8 := (hW.cell (p := ⟨Q, 8, none⟩) hQl).trans e8; have t9 := (hW.cell (p := ⟨Q, 9, none⟩) hQl).trans e9; have t10 := (hW.cell (p := ⟨Q, 10, none⟩) hQl).trans e10; have v0 := (hW.cell (p := ⟨M, 0, none⟩) hMl).trans d0; have v1 := (hW.cell (p := ⟨M, 1, none⟩) hMl).trans d1; have v2 := (hW.cell (p := ⟨M, 2, none⟩) hMl).trans d2; have v3 := (hW.cell (p := ⟨M, 3, none⟩) hMl).trans d3; have v4 := (hW.cell (p := ⟨M, 4, none⟩) hMl).trans d4; have v5 := (hW.cell (p := ⟨M, 5, none⟩) hMl).trans d5; have v6 := (hW.cell (p := ⟨M, 6, none⟩) hMl).trans d6; have v7 := (hW.cell (p := ⟨M, 7, none⟩) hMl).trans d7; have v8 := (hW.cell (p := ⟨M, 8, none⟩) hMl).trans d8; have v9 := (hW.cell (p := ⟨M, 9, none⟩) hMl).trans d9; have v10 := (hW.cell (p := ⟨M, 10, none⟩) hMl).trans d10; have u0 := (hW.cell (p := ⟨w.heap.size, 0, none⟩) hIl).trans j0; have u1 := (hW.cell (p := ⟨w.heap.size, 1, none⟩) hIl).trans j1; have u2 := (hW.cell (p := ⟨w.heap.size, 2, none⟩) hIl).trans j2; have o0 := (hW.cell (p := ⟨w.heap.size + 1, 0, none⟩) hJl).trans k0; have o1 := (hW.cell (p := ⟨w.heap.size + 1, 1, none⟩) hJl).trans k1; have o2 := (hW.cell (p := ⟨w.heap.size + 1, 2, none⟩) hJl).trans k2; have q1 := fun W => HE1.out W; have q3 := fun W => HE3.out W; (try simp only at *); go_simp; try with_reducible rfl)
                     simp only [Act.put, List.setIfInBounds_toArray, List.set_cons_zero, List.set_cons_succ])
                  | (refine wpGrowS_skip (by simp only [List.getElem?_toArray, List.getElem?_cons_succ, List.getElem?_cons_zero]; rfl) (by rfl) ?_
                     simp only [Act.put, List.setIfInBounds_toArray, List.set_cons_zero, List.set_cons_succ]))
              refine wpGrowS_call (by simp only [List.getElem?_toArray, List.getElem?_cons_succ, List.getElem?_cons_zero]; rfl) (by rfl) fun K hK => ?_
              go_simp
              go_fit (HBN2.out _ hS)
              rintro e wn ⟨rfl, hbn⟩
              have hSp := hS
              have hS : Below wq.heap.size wq wn := beln hS hbn
              go_simp
              refine hK _ _ hS ?_
              clear hK K
              try simp only [Act.put, List.setIfInBounds_toArray, List.set_cons_zero, List.set_cons_succ]
              iterate 3
                (first
                  | (refine wpGrowS_float (v := ?_) (by simp only [List.getElem?_toArray, List.getElem?_cons_succ, List.getElem?_cons_zero]; rfl) (by rfl) ?_ ?_
                     rotate_left
                     · (intro W hW; have t0 := (hW.cell (p := ⟨Q, 0, none⟩) hQl).trans e0; have t1 := (hW.cell (p := ⟨Q, 1, none⟩) hQl).trans e1; have t2 := (hW.cell (p := ⟨Q, 2, none⟩) hQl).trans e2; have t3 := (hW.cell (p := ⟨Q, 3, none⟩) hQl).trans e3; have t4 := (hW.cell (p := ⟨Q, 4, none⟩) hQl).trans e4; have t5 := (hW.cell (p := ⟨Q, 5, none⟩) hQl).trans e5; have t6 := (hW.cell (p := ⟨Q, 6, none⟩) hQl).trans e6; have t7 := (hW.cell (p := ⟨Q, 7, none⟩) hQl).trans e7; have t8 := (hW.cell (p := ⟨Q, 8, none⟩) hQl).trans e8; have t9 := (hW.cell (p := ⟨Q, 9, none⟩) hQl).trans e9; have t10 := (hW.cell (p := ⟨Q, 10, none⟩) hQl).trans e10; have v0 := (hW.cell (p := ⟨M, 0, none⟩) hMl).trans d0; have v1 := (hW.cell (p := ⟨M, 1, none⟩) hMl).trans d1; have v2 := (hW.cell (p := ⟨M, 2, none⟩) hMl).trans d2; have v3 := (hW.cell (p := ⟨M, 3, none⟩) hMl).trans d3; have v4 := (hW.cell (p := ⟨M, 4, none⟩) hMl).trans d4; have v5 := (hW.cell (p := ⟨M, 5, none⟩) hMl).trans d5; have v6 := (hW.cell (p := ⟨M, 6, none⟩) hMl).trans d6; have v7 := (hW.cell (p := ⟨M, 7, none⟩) hMl).trans d7; have v8 := (hW.cell (p := ⟨M, 8, none⟩) hMl).trans d8; have v9 := (hW.cell (p := ⟨M, 9, none⟩) hMl).trans d9; have v10 := (hW.cell (p := ⟨M, 10, none⟩) hMl).trans d10; have u0 := (hW.cell (p := ⟨w.heap.size, 0, none⟩) hIl).trans j0; have u1 := (hW.cell (p := ⟨w.heap.size, 1, none⟩) hIl).trans j1; have u2 := (hW.cell (p := ⟨w.heap.size, 2, none⟩) hIl).trans j2; have o0 := (hW.cell (p := ⟨w.heap.size + 1, 0, none⟩) hJl).trans k0; have o1 := (hW.cell (p := ⟨w.heap.size + 1, 1, none⟩) hJl).trans k1; have o2 := (hW.cell (p := ⟨w.heap.size + 1, 2, none⟩) hJl).trans k2; have q1 := fun W => HE1.out W; have q3 := fun W => HE3.out W; (try simp only at *); go_simp; try with_reducible rfl)
                     simp only [Act.put, List.setIfInBounds_toArray, List.set_cons_zero, List.set_cons_succ])
                  | (refine wpGrowS_skip (by simp only [List.getElem?_toArray, List.getElem?_cons_succ, List.getElem?_cons_zero]; rfl) (by rfl) ?_
                     simp only [Act.put, List.setIfInBounds_toArray, List.set_cons_zero, List.set_cons_succ]))
              refine wpGrowS_call (by simp only [List.getElem?_toArray, List.getElem?_cons_succ, List.getElem?_cons_zero]; rfl) (by rfl) fun K hK => ?_
              go_simp
              go_fit (HBS2.out _ hS)
              rintro e wn ⟨rfl, hbn⟩
              have hSp := hS
              have hS : Below wq.heap.size wq wn := beln hS hbn
              go_simp
              refine hK _ _ hS ?_
              clear hK K
              try simp only [Act.put, List.setIfInBounds_toArray, List.set_cons_zero, List.set_cons_succ]
              iterate 3
                (first
                  | (refine wpGrowS_float (v := ?_) (by simp only [List.getElem?_toArray, List.getElem?_cons_succ, List.getElem?_cons_zero]; rfl) (by rfl) ?_ ?_
                     rotate_left
                     · (intro W hW; have t0 := (hW.cell (p := ⟨Q, 0, none⟩) hQl).trans e0; have t1 := (hW.cell (p := ⟨Q, 1, none⟩) hQl).trans e1; have t2 := (hW.cell (p := ⟨Q, 2, none⟩) hQl).trans e2; have t3 := (hW.cell (p := ⟨Q, 3, none⟩) hQl).trans e3; have t4 := (hW.cell (p := ⟨Q, 4, none⟩) hQl).trans e4; have t5 := (hW.cell (p := ⟨Q, 5, none⟩) hQl).trans e5; have t6 := (hW.cell (p := ⟨Q, 6, none⟩) hQl).trans e6; have t7 := (hW.cell (p := ⟨Q, 7, none⟩) hQl).trans e7; have t8 := (hW.cell (p := ⟨Q, 8, none⟩) hQl).trans e8; have t9 := (hW.cell (p := ⟨Q, 9, none⟩) hQl).trans e9; have t10 := (hW.cell (p := ⟨Q, 10, none⟩) hQl).trans e10; have v0 := (hW.cell (p := ⟨M, 0, none⟩) hMl).trans d0; have v1 := (hW.cell (p := ⟨M, 1, none⟩) hMl).trans d1; have v2 := (hW.cell (p := ⟨M, 2, none⟩) hMl).trans d2; have v3 := (hW.cell (p := ⟨M, 3, none⟩) hMl).trans d3; have v4 := (hW.cell (p := ⟨M, 4, none⟩) hMl).trans d4; have v5 := (hW.cell (p := ⟨M, 5, none⟩) hMl).trans d5; have v6 := (hW.cell (p := ⟨M, 6, none⟩) hMl).trans d6; have v7 := (hW.cell (p := ⟨M, 7, none⟩) hMl).trans d7; have v8 := (hW.cell (p := ⟨M, 8, none⟩) hMl).trans d8; have v9 := (hW.cell (p := ⟨M, 9, none⟩) hMl).trans d9; have v10 := (hW.cell (p := ⟨M, 10, none⟩) hMl).trans d10; have u0 := (hW.cell (p := ⟨w.heap.size, 0, none⟩) hIl).trans j0; have u1 := (hW.cell (p := ⟨w.heap.size, 1, none⟩) hIl).trans j1; have u2 := (hW.cell (p := ⟨w.heap.size, 2, none⟩) hIl).trans j2; have o0 := (hW.cell (p := ⟨w.heap.size + 1, 0, none⟩) hJl).trans k0; have o1 := (hW.cell (p := ⟨w.heap.size + 1, 1, none⟩) hJl).trans k1; have o2 := (hW.cell (p := ⟨w.heap.size + 1, 2, none⟩) hJl).trans k2; have q1 := fun W => HE1.out W; have q3 := fun W => HE3.out W; (try simp only at *); go_simp; try with_reducible rfl)
                     simp only [Act.put, List.setIfInBounds_toArray, List.set_cons_zero, List.set_cons_succ])
                  | (refine wpGrowS_skip (by simp only [List.getElem?_toArray, List.getElem?_cons_succ, List.getElem?_cons_zero]; rfl) (by rfl) ?_
                     simp only [Act.put, List.setIfInBounds_toArray, List.set_cons_zero, List.set_cons_succ]))
              refine wpGrowS_call (by simp only [List.getElem?_toArray, List.getElem?_cons_succ, List.getElem?_cons_zero]; rfl) (by rfl) fun K hK => ?_
              go_simp
              go_fit (HAW.out _)
              rintro e wn ⟨rfl, hbn⟩
              have hSp := hS
              have hS : Below wq.heap.size wq wn := beln hS hbn
              go_simp
              refine hK _ _ hS ?_
              clear hK K
              try simp only [Act.put, List.setIfInBounds_toArray, List.set_cons_zero, List.set_cons_succ]
              iterate 2
                (first
                  | (refine wpGrowS_float (v := ?_) (by simp only [List.getElem?_toArray, List.getElem?_cons_succ, List.getElem?_cons_zero]; rfl) (by rfl) ?_ ?_
                     rotate_left
                     · (intro W hW; have t0 := (hW.cell (p := ⟨Q, 0, none⟩) hQl).trans e0; have t1 := (hW.cell (p := ⟨Q, 1, none⟩) hQl).trans e1; have t2 := (hW.cell (p := ⟨Q, 2, none⟩) hQl).trans e2; have t3 := (hW.cell (p := ⟨Q, 3, none⟩) hQl).trans e3; have t4 := (hW.cell (p := ⟨Q, 4, none⟩) hQl).trans e4; have t5 := (hW.cell (p := ⟨Q, 5, none⟩) hQl).trans e5; have t6 := (hW.cell (p := ⟨Q, 6, none⟩) hQl).trans e6; have t7 := (hW.cell (p := ⟨Q, 7, none⟩) hQl).trans e7; have t8 := (hW.cell (p := ⟨Q, 8, none⟩) hQl).trans e8; have t9 := (hW.cell (p := ⟨Q, 9, none⟩) hQl).trans e9; have t10 := (hW.cell (p := ⟨Q, 10, none⟩) hQl).trans e10; have v0 := (hW.cell (p := ⟨M, 0, none⟩) hMl).trans d0; have v1 := (hW.cell (p := ⟨M, 1, none⟩) hMl).trans d1; have v2 := (hW.cell (p := ⟨M, 2, none⟩) hMl).trans d2; have v3 := (hW.cell (p := ⟨M, 3, none⟩) hMl).trans d3; have v4 := (hW.cell (p := ⟨M, 4, none⟩) hMl).trans d4; have v5 := (hW.cell (p := ⟨M, 5, none⟩) hMl).trans d5; have v6 := (hW.cell (p := ⟨M, 6, none⟩) hMl).trans d6; have v7 := (hW.cell (p := ⟨M, 7, none⟩) hMl).trans d7; have v8 := (hW.cell (p := ⟨M, 8, none⟩) hMl).trans d8; have v9 := (hW.cell (p := ⟨M, 9, none⟩) hMl).trans d9; have v10 := (hW.cell (p := ⟨M, 10, none⟩) hMl).trans d10; have u0 := (hW.cell (p := ⟨w.heap.size, 0, none⟩) hIl).trans j0; have u1 := (hW.cell (p := ⟨w.heap.size, 1, none⟩) hIl).trans j1; have u2 := (hW.cell (p := ⟨w.heap.size, 2, none⟩) hIl).trans j2; have o0 := (hW.cell (p := ⟨w.heap.size + 1, 0, none⟩) hJl).trans k0; have o1 := (hW.cell (p := ⟨w.heap.size + 1, 1, none⟩) hJl).trans k1; have o2 := (hW.cell (p := ⟨w.heap.size + 1, 2, none⟩) hJl).trans k2; have q1 := fun W => HE1.out W; have q3 := fun W => HE3.out W; (try simp only at *); go_simp; try with_reducible rfl)
                     simp only [Act.put, List.setIfInBounds_toArray, List.set_cons_zero, List.set_cons_succ])
                  | (refine wpGrowS_skip (by simp only [List.getElem?_toArray, List.getElem?_cons_succ, List.getElem?_cons_zero]; rfl) (by rfl) ?_
                     simp only [Act.put, List.setIfInBounds_toArray, List.set_cons_zero, List.set_cons_succ]))
              refine wpGrowS_nil ?_
              have HF := Lib.hid hS
              clear hS
              go_wp2
              go_ret
              exact ⟨rfl, beln HBX.out HF.out⟩
            · have HBN2 := Lib.hid fun W (hW : Below wq.heap.size wq W) => HBN.out r0 r1 r2 W hW
              rw [HHH.out, he, Bool.true_or] at HBN2
              rw [he] at HE3
              clear he HBN HBS HHH
              go_upto_region 14 with fail
              clear f0 f1 f2 f3 f4 f5 f6 f7 f8 f9 f10 g0 g1 g2 g3 g4 g5 g6 g7 g8 g9 g10 j0 j1 j2 k0 k1 k2
              obtain ⟨e0, e1, e2, e3, e4, e5, e6, e7, e8, e9, e10⟩ := HNQ.out.cells
              obtain ⟨d0, d1, d2, d3, d4, d5, d6, d7, d8, d9, d10⟩ := HM9.out.cells
              obtain ⟨j0, j1, j2⟩ := HI9.out.cells
              obtain ⟨k0, k1, k2⟩ := HJ9.out.cells
              simp only at e0 e1 e2 e3 e4 e5 e6 e7 e8 e9 e10 d0 d1 d2 d3 d4 d5 d6 d7 d8 d9 d10 j0 j1 j2 k0 k1 k2
              have hS := HB.out.drew
              refine wp_region_growS (S := fun W => Below wq.heap.size wq W) [(0, true), (1, true), (3, true), (4, true), (5, true), (6, true), (2, false), (7, true), (8, true), (9, true), (10, false), (11, true), (12, true), (13, true), (14, false), (15, true), (16, true)] (by kernel_rfl) (by kernel_rfl) (by kernel_rfl) (by kernel_rfl) (by intro c a d v w h; cases d <;> exact h) hS ?_
              iterate 6
                (first
                  | (refine wpGrowS_float (v := ?_) (by simp only [List.getElem?_toArray, List.getElem?_cons_succ, List.getElem?_cons_zero]; rfl) (by rfl) ?_ ?_
                     rotate_left
                     · (intro W hW; have t0 := (hW.cell (p := ⟨Q, 0, none⟩) hQl).trans e0; have t1 := (hW.cell (p := ⟨Q, 1, none⟩) hQl).trans e1; have t2 := (hW.cell (p := ⟨Q, 2, none⟩) hQl).trans e2; have t3 := (hW.cell (p := ⟨Q, 3, none⟩) hQl).trans e3; have t4 := (hW.cell (p := ⟨Q, 4, none⟩) hQl).trans e4; have t5 := (hW.cell (p := ⟨Q, 5, none⟩) hQl).trans e5; have t6 := (hW.cell (p := ⟨Q, 6, none⟩) hQl).trans e6; have t7 := (hW.cell (p := ⟨Q, 7, none⟩) hQl).trans e7; have t8 := (hW.cell (p := ⟨Q, 8, none⟩) hQl).trans e8; have t9 := (hW.cell (p := ⟨Q, 9, none⟩) hQl).trans e9; have t10 := (hW.cell (p := ⟨Q, 10, none⟩) hQl).trans e10; have v0 := (hW.cell (p := ⟨M, 0, none⟩) hMl).trans d0; have v1 := (hW.cell (p := ⟨M, 1, none⟩) hMl).trans d1; have v2 := (hW.cell (p := ⟨M, 2, none⟩) hMl).trans d2; have v3 := (hW.cell (p := ⟨M, 3, none⟩) hMl).trans d3; have v4 := (hW.cell (p := ⟨M, 4, none⟩) hMl).trans d4; have v5 := (hW.cell (p := ⟨M, 5, none⟩) hMl).trans d5; have v6 := (hW.cell (p := ⟨M, 6, none⟩) hMl).trans d6; have v7 := (hW.cell (p := ⟨M, 7, none⟩) hMl).trans d7; have v8 := (hW.cell (p := ⟨M, 8, none⟩) hMl).trans d8; have v9 := (hW.cell (p := ⟨M, 9, none⟩) hMl).trans d9; have v10 := (hW.cell (p := ⟨M, 10, none⟩) hMl).trans d10; have u0 := (hW.cell (p := ⟨w.heap.size, 0, none⟩) hIl).trans j0; have u1 := (hW.cell (p := ⟨w.heap.size, 1, none⟩) hIl).trans j1; have u2 := (hW.cell (p := ⟨w.heap.size, 2, none⟩) hIl).trans j2; have o0 := (hW.cell (p := ⟨w.heap.size + 1, 0, none⟩) hJl).trans k0; have o1 := (hW.cell (p := ⟨w.heap.size + 1, 1, none⟩) hJl).trans k1; have o2 := (hW.cell (p := ⟨w.heap.size + 1, 2, none⟩) hJl).trans k2; have q1 := fun W => HE1.out W; have q3 := fun W => HE3.out W; (try simp only at *); go_simp; try with_reducible rfl)
                     simp only [Act.put, List.setIfInBounds_toArray, List.set_cons_zero, List.set_cons_succ])
                  | (refine wpGrowS_skip (by simp only [List.getElem?_toArray, List.getElem?_cons_succ, List.getElem?_cons_zero]; rfl) (by rfl) ?_
                     simp only [Act.put, List.setIfInBounds_toArray, List.set_cons_zero, List.set_cons_succ]))
              refine wpGrowS_call (by simp only [List.getElem?_toArray, List.getElem?_cons_succ, List.getElem?_cons_zero]; rfl) (by rfl) fun K hK => ?_
              go_simp
              go_fit (HBN2.out _ hS)
              rintro e wn ⟨rfl, hbn⟩
              have hSp := hS
              have hS : Below wq.heap.size wq wn := beln hS hbn
              go_simp
              refine hK _ _ hS ?_
              clear hK K
              try simp only [Act.put, List.setIfInBounds_toArray, List.set_cons_zero, List.set_cons_succ]
              iterate 3
                (first
                  | (refine wpGrowS_float (v := ?_) (by simp only [List.getElem?_toArray, List.getElem?_cons_succ, List.getElem?_cons_zero]; rfl) (by rfl) ?_ ?_
                     rotate_left
                     · (intro W hW; have t0 := (hW.cell (p := ⟨Q, 0, none⟩) hQl).trans e0; have t1 := (hW.cell (p := ⟨Q, 1, none⟩) hQl).trans e1; have t2 := (hW.cell (p := ⟨Q, 2, none⟩) hQl).trans e2; have t3 := (hW.cell (p := ⟨Q, 3, none⟩) hQl).trans e3; have t4 := (hW.cell (p := ⟨Q, 4, none⟩) hQl).trans e4; have t5 := (hW.cell (p := ⟨Q, 5, none⟩) hQl).trans e5; have t6 := (hW.cell (p := ⟨Q, 6, none⟩) hQl).trans e6; have t7 := (hW.cell (p := ⟨Q, 7, none⟩) hQl).trans e7; have t8 := (hW.cell (p := ⟨Q, 8, none⟩) hQl).trans e8; have t9 := (hW.cell (p := ⟨Q, 9, none⟩) hQl).trans e9; have t10 := (hW.cell (p := ⟨Q, 10, none⟩) hQl).trans e10; have v0 := (hW.cell (p := ⟨M, 0, none⟩) hMl).trans d0; have v1 := (hW.cell (p := ⟨M, 1, none⟩) hMl).trans d1; have v2 := (hW.cell (p := ⟨M, 2, none⟩) hMl).trans d2; have v3 := (hW.cell (p := ⟨M, 3, none⟩) hMl).trans d3; have v4 := (hW.cell (p := ⟨M, 4, none⟩) hMl).trans d4; have v5 := (hW.cell (p := ⟨M, 5, none⟩) hMl).trans d5; have v6 := (hW.cell (p := ⟨M, 6, none⟩) hMl).trans d6; have v7 := (hW.cell (p := ⟨M, 7, none⟩) hMl).trans d7; have v8 := (hW.cell (p := ⟨M, 8, none⟩) hMl).trans d8; have v9 := (hW.cell (p := ⟨M, 9, none⟩) hMl).trans d9; have v10 := (hW.cell (p := ⟨M, 10, none⟩) hMl).trans d10; have u0 := (hW.cell (p := ⟨w.heap.size, 0, none⟩) hIl).trans j0; have u1 := (hW.cell (p := ⟨w.heap.size, 1, none⟩) hIl).trans j1; have u2 := (hW.cell (p := ⟨w.heap.size, 2, none⟩) hIl).trans j2; have o0 := (hW.cell (p := ⟨w.heap.size + 1, 0, none⟩) hJl).trans k0; have o1 := (hW.cell (p := ⟨w.heap.size + 1, 1, none⟩) hJl).trans k1; have o2 := (hW.cell (p := ⟨w.heap.size + 1, 2, none⟩) hJl).trans k2; have q1 := fun W => HE1.out W; have q3 := fun W => HE3.out W; (try simp only at *); go_simp; try with_reducible rfl)
                     simp only [Act.put, List.setIfInBounds_toArray, List.set_cons_zero, List.set_cons_succ])
                  | (refine wpGrowS_skip (by simp only [List.getElem?_toArray, List.getElem?_cons_succ, List.getElem?_cons_zero]; rfl) (by rfl) ?_
                     simp only [Act.put, List.setIfInBounds_toArray, List.set_cons_zero, List.set_cons_succ]))
              refine wpGrowS_pass hS (by simp only [List.getElem?_toArray, List.getElem?_cons_succ, List.getElem?_cons_zero]; rfl) (by rfl) ?_
              try simp only [Act.put, List.setIfInBounds_toArray, List.set_cons_zero, List.set_cons_succ]
              iterate 3
                (first
                  | (refine wpGrowS_float (v := ?_) (by simp only [List.getElem?_toArray, List.getElem?_cons_succ, List.getElem?_cons_zero]; rfl) (by rfl) ?_ ?_
                     rotate_left
                     · (intro W hW; have t0 := (hW.cell (p := ⟨Q, 0, none⟩) hQl).trans e0; have t1 := (hW.cell (p := ⟨Q, 1, none⟩) hQl).trans e1; have t2 := (hW.cell (p := ⟨Q, 2, none⟩) hQl).trans e2; have t3 := (hW.cell (p := ⟨Q, 3, none⟩) hQl).trans e3; have t4 := (hW.cell (p := ⟨Q, 4, none⟩) hQl).trans e4; have t5 := (hW.cell (p := ⟨Q, 5, none⟩) hQl).trans e5; have t6 := (hW.cell (p := ⟨Q, 6, none⟩) hQl).trans e6; have t7 := (hW.cell (p := ⟨Q, 7, none⟩) hQl).trans e7; have t8 := (hW.cell (p := ⟨Q, 8, none⟩) hQl).trans e8; have t9 := (hW.cell (p := ⟨Q, 9, none⟩) hQl).trans e9; have t10 := (hW.cell (p := ⟨Q, 10, none⟩) hQl).trans e10; have v0 := (hW.cell (p := ⟨M, 0, none⟩) hMl).trans d0; have v1 := (hW.cell (p := ⟨M, 1, none⟩) hMl).trans d1; have v2 := (hW.cell (p := ⟨M, 2, none⟩) hMl).trans d2; have v3 := (hW.cell (p := ⟨M, 3, none⟩) hMl).trans d3; have v4 := (hW.cell (p := ⟨M, 4, none⟩) hMl).trans d4; have v5 := (hW.cell (p := ⟨M, 5, none⟩) hMl).trans d5; have v6 := (hW.cell (p := ⟨M, 6, none⟩) hMl).trans d6; have v7 := (hW.cell (p := ⟨M, 7, none⟩) hMl).trans d7; have v8 := (hW.cell (p := ⟨M, 8, none⟩) hMl).trans d8; have v9 := (hW.cell (p := ⟨M, 9, none⟩) hMl).trans d9; have v10 := (hW.cell (p := ⟨M, 10, none⟩) hMl).trans d10; have u0 := (hW.cell (p := ⟨w.heap.size, 0, none⟩) hIl).trans j0; have u1 := (hW.cell (p := ⟨w.heap.size, 1, none⟩) hIl).trans j1; have u2 := (hW.cell (p := ⟨w.heap.size, 2, none⟩) hIl).trans j2; have o0 := (hW.cell (p := ⟨w.heap.size + 1, 0, none⟩) hJl).trans k0; have o1 := (hW.cell (p := ⟨w.heap.size + 1, 1, none⟩) hJl).trans k1; have o2 := (hW.cell (p := ⟨w.heap.size + 1, 2, none⟩) hJl).trans k2; have q1 := fun W => HE1.out W; have q3 := fun W => HE3.out W; (try simp only at *); go_simp; try with_reducible rfl)
                     simp only [Act.put, List.setIfInBounds_toArray, List.set_cons_zero, List.set_cons_succ])
                  | (refine wpGrowS_skip (by simp only [List.getElem?_toArray, List.getElem?_cons_succ, List.getElem?_cons_zero]; rfl) (by rfl) ?_
                     simp only [Act.put, List.setIfInBounds_toArray, List.set_cons_zero, List.set_cons_succ]))
              refine wpGrowS_call (by simp only [List.getElem?_toArray, List.getElem?_cons_succ, List.getElem?_cons_zero]; rfl) (by rfl) fun K hK => ?_
              go_simp
              go_fit (HAW.out _)
              rintro e wn ⟨rfl, hbn⟩
              have hSp := hS
              have hS : Below wq.heap.size wq wn := beln hS hbn
              go_simp
              refine hK _ _ hS ?_
              clear hK K
              try simp only [Act.put, List.setIfInBounds_toArray, List.set_cons_zero, List.set_cons_succ]
              iterate 2
                (first
                  | (refine wpGrowS_float (v := ?_) (by simp only [List.getElem?_toArray, List.getElem?_cons_succ, List.getElem?_cons_zero]; rfl) (by rfl) ?_ ?_
                     rotate_left
                     · (intro W hW; have t0 := (hW.cell (p := ⟨Q, 0, none⟩) hQl).trans e0; have t1 := (hW.cell (p := ⟨Q, 1, none⟩) hQl).trans e1; have t2 := (hW.cell (p := ⟨Q, 2, none⟩) hQl).trans e2; have t3 := (hW.cell (p := ⟨Q, 3, none⟩) hQl).trans e3; have t4 := (hW.cell (p := ⟨Q, 4, none⟩) hQl).trans e4; have t5 := (hW.cell (p := ⟨Q, 5, none⟩) hQl).trans e5; have t6 := (hW.cell (p := ⟨Q, 6, none⟩) hQl).trans e6; have t7 := (hW.cell (p := ⟨Q, 7, none⟩) hQl).trans e7; have t8 := (hW.cell (p := ⟨Q, 8, none⟩) hQl).trans e8; have t9 := (hW.cell (p := ⟨Q, 9, none⟩) hQl).trans e9; have t10 := (hW.cell (p := ⟨Q, 10, none⟩) hQl).trans e10; have v0 := (hW.cell (p := ⟨M, 0, none⟩) hMl).trans d0; have v1 := (hW.cell (p := ⟨M, 1, none⟩) hMl).trans d1; have v2 := (hW.cell (p := ⟨M, 2, none⟩) hMl).trans d2; have v3 := (hW.cell (p := ⟨M, 3, none⟩) hMl).trans d3; have v4 := (hW.cell (p := ⟨M, 4, none⟩) hMl).trans d4; have v5 := (hW.cell (p := ⟨M, 5, none⟩) hMl).trans d5; have v6 := (hW.cell (p := ⟨M, 6, none⟩) hMl).trans d6; have v7 := (hW.cell (p := ⟨M, 7, none⟩) hMl).trans d7; have v8 := (hW.cell (p := ⟨M, 8, none⟩) hMl).trans d8; have v9 := (hW.cell (p := ⟨M, 9, none⟩) hMl).trans d9; have v10 := (hW.cell (p := ⟨M, 10, none⟩) hMl).trans d10; have u0 := (hW.cell (p := ⟨w.heap.size, 0, none⟩) hIl).trans j0; have u1 := (hW.cell (p := ⟨w.heap.size, 1, none⟩) hIl).trans j1; have u2 := (hW.cell (p := ⟨w.heap.size, 2, none⟩) hIl).trans j2; have o0 := (hW.cell (p := ⟨w.heap.size + 1, 0, none⟩) hJl).trans k0; have o1 := (hW.cell (p := ⟨w.heap.size + 1, 1, none⟩) hJl).trans k1; have o2 := (hW.cell (p := ⟨w.heap.size + 1, 2, none⟩) hJl).trans k2; have q1 := fun W => HE1.out W; have q3 := fun W => HE3.out W; (try simp only at *); go_simp; try with_reducible rfl)
                     simp only [Act.put, List.setIfInBounds_toArray, List.set_cons_zero, List.set_cons_succ])
                  | (refine wpGrowS_skip (by simp only [List.getElem?_toArray, List.getElem?_cons_succ, List.getElem?_cons_zero]; rfl) (by rfl) ?_
                     simp only [Act.put, List.setIfInBounds_toArray, List.set_cons_zero, List.set_cons_succ]))
              refine wpGrowS_nil ?_
              have HF := Lib.hid hS
              clear hS
              go_wp2
              go_ret
              exact ⟨rfl, beln HBX.out HF.out⟩
    · refine wpOp_call (by simp only [List.getElem?_toArray, List.getElem?_cons_succ, List.getElem?_cons_zero]; rfl) (by rfl) fun K hK => ?_
      go_simp
      have hbl : Below w9.heap.size w9 (wp.alloc (.cells #[.int .i64 0, .int .i64 0, .int .i64 0, .slice none 0 0, .int .i64 0, .int .i64 0, .int .i64 0, .int .i64 0, .int .i64 0, .int .i64 0, .bool false] 30)) := belt hS1 _
      refine hK _ _ hbl ?_
      clear hK K
      try simp only [Act.put, List.setIfInBounds_toArray, List.set_cons_zero, List.set_cons_succ]
      refine wpGT_call (by simp only [List.getElem?_toArray, List.getElem?_cons_succ, List.getElem?_cons_zero]; rfl) (by rfl) fun K hK => ?_
      go_simp
      go_fit (HCH.out _ hbl)
      rintro e wn ⟨A9, c9, rfl, hc9, ho9, hbn⟩
      have hS2 : Below w9.heap.size w9 wn := beln hbl hbn
      have hpl := hS1.size
      have HI0 := Lib.hid ((NB.new wp ⟨0, 0, 0⟩ none 0 0 ⟨0, 0, 0, 0, 0, 0, false⟩).next hbn)
      go_simp
      refine hK _ _ hS2 ?_
      clear hK K
      try simp only [Act.put, List.setIfInBounds_toArray, List.set_cons_zero, List.set_cons_succ]
      iterate 3
        (first
          | (refine wpGT_float (v := ?_) (by simp only [List.getElem?_toArray, List.getElem?_cons_succ, List.getElem?_cons_zero]; rfl) (by rfl) ?_ ?_
             rotate_left
             · (intro W hW; skip; go_simp; try with_reducible rfl)
             simp only [Act.put, List.setIfInBounds_toArray, List.set_cons_zero, List.set_cons_succ])
          | (refine wpGT_skip (by simp only [List.getElem?_toArray, List.getElem?_cons_succ, List.getElem?_cons_zero]; rfl) (by rfl) ?_
             simp only [Act.put, List.setIfInBounds_toArray, List.set_cons_zero, List.set_cons_succ]))
      obtain ⟨z0, z1, z2, z3, z4, z5, z6, z7, z8, z9, z10⟩ := HI0.out.cells
      have zf := HI0.out.frz
      have zl := HI0.out.lt
      simp only at z0 z1 z2 z3 z4 z5 z6 z7 z8 z9 z10
      refine wpGT_call (by simp only [List.getElem?_toArray, List.getElem?_cons_succ, List.getElem?_cons_zero]; rfl) (by rfl) fun K hK => ?_
      go_simp
      have HB9 : Hid (Below w9.heap.size w9 (((((((((((wn.setCell ⟨wp.heap.size, 0, none⟩ (.int .i64 y0)).setCell ⟨wp.heap.size, 1, none⟩ (.int .i64 y1)).setCell ⟨wp.heap.size, 2, none⟩ (.int .i64 y2)).setCell ⟨wp.heap.size, 3, none⟩ (.slice A9 ys.length c9)).setCell ⟨wp.heap.size, 4, none⟩ (.int .i64 b0)).setCell ⟨wp.heap.size, 5, none⟩ (.int .i64 b1)).setCell ⟨wp.heap.size, 6, none⟩ (.int .i64 b2)).setCell ⟨wp.heap.size, 7, none⟩ (.int .i64 b3)).setCell ⟨wp.heap.size, 8, none⟩ (.int .i64 b4)).setCell ⟨wp.heap.size, 9, none⟩ (.int .i64 b5)).setCell ⟨wp.heap.size, 10, none⟩ (.bool b6))) := Lib.hid (below11b (by omega) hS2 _ _ _ _ _ _ _ _ _ _ _)
      have HN9 : Hid (NB (((((((((((wn.setCell ⟨wp.heap.size, 0, none⟩ (.int .i64 y0)).setCell ⟨wp.heap.size, 1, none⟩ (.int .i64 y1)).setCell ⟨wp.heap.size, 2, none⟩ (.int .i64 y2)).setCell ⟨wp.heap.size, 3, none⟩ (.slice A9 ys.length c9)).setCell ⟨wp.heap.size, 4, none⟩ (.int .i64 b0)).setCell ⟨wp.heap.size, 5, none⟩ (.int .i64 b1)).setCell ⟨wp.heap.size, 6, none⟩ (.int .i64 b2)).setCell ⟨wp.heap.size, 7, none⟩ (.int .i64 b3)).setCell ⟨wp.heap.size, 8, none⟩ (.int .i64 b4)).setCell ⟨wp.heap.size, 9, none⟩ (.int .i64 b5)).setCell ⟨wp.heap.size, 10, none⟩ (.bool b6)) wp.heap.size ⟨y0, y1, y2⟩ A9 ys.length c9 ⟨b0, b1, b2, b3, b4, b5, b6⟩) := Lib.hid (HI0.out.store2 ⟨y0, y1, y2⟩ A9 ys.length c9 ⟨b0, b1, b2, b3, b4, b5, b6⟩)
      have HBX := Lib.hid (beln HB.out HB9.out)
      have HM9 := Lib.hid (HNM.out.next HB9.out)
      have HI9 := Lib.hid (HI2.out.next HB9.out)
      have HJ9 := Lib.hid (HJ2.out.next HB9.out)
      have HRS := Lib.hid (HRX.out.next HB9.out)
      have HO9 := Lib.hid (OwnG.low (b' := M + 1) (own11 (g0 := wp.heap.size) (by simp) ho9 (.int .i64 y0) (.int .i64 y1) (.int .i64 y2) (.slice A9 ys.length c9) (.int .i64 b0) (.int .i64 b1) (.int .i64 b2) (.int .i64 b3) (.int .i64 b4) (.int .i64 b5) (.bool b6)) (by simp; omega))
      refine hK _ _ HB9.out ?_
      clear hK K
      try simp only [Act.put, List.setIfInBounds_toArray, List.set_cons_zero, List.set_cons_succ]
      iterate 1
        (first
          | (refine wpGT_float (v := ?_) (by simp only [List.getElem?_toArray, List.getElem?_cons_succ, List.getElem?_cons_zero]; rfl) (by rfl) ?_ ?_
             rotate_left
             · (intro W hW; skip; go_simp; try with_reducible rfl)
             simp only [Act.put, List.setIfInBounds_toArray, List.set_cons_zero, List.set_cons_succ])
          | (refine wpGT_skip (by simp only [List.getElem?_toArray, List.getElem?_cons_succ, List.getElem?_cons_zero]; rfl) (by rfl) ?_
             simp only [Act.put, List.setIfInBounds_toArray, List.set_cons_zero, List.set_cons_succ]))
      clear hS hS1 hS2 hbl hbp hbn
      clear HB9 z0 z1 z2 z3 z4 z5 z6 z7 z8 z9 z10 zf zl HI0 ho9
      generalize (((((((((((wn.setCell ⟨wp.heap.size, 0, none⟩ (.int .i64 y0)).setCell ⟨wp.heap.size, 1, none⟩ (.int .i64 y1)).setCell ⟨wp.heap.size, 2, none⟩ (.int .i64 y2)).setCell ⟨wp.heap.size, 3, none⟩ (.slice A9 ys.length c9)).setCell ⟨wp.heap.size, 4, none⟩ (.int .i64 b0)).setCell ⟨wp.heap.size, 5, none⟩ (.int .i64 b1)).setCell ⟨wp.heap.size, 6, none⟩ (.int .i64 b2)).setCell ⟨wp.heap.size, 7, none⟩ (.int .i64 b3)).setCell ⟨wp.heap.size, 8, none⟩ (.int .i64 b4)).setCell ⟨wp.heap.size, 9, none⟩ (.int .i64 b5)).setCell ⟨wp.heap.size, 10, none⟩ (.bool b6)) = wq at *
      generalize hQQ : wp.heap.size = Q at *
      clear hQQ
      refine wpGT_nil ?_
      have HNQ := Lib.hid (show NB wq Q ⟨y0, y1, y2⟩ A9 ys.length c9 ⟨b0, b1, b2, b3, b4, b5, b6⟩ from HN9.out)
      clear HN9 HNM HB d0 d1 d2 d3 d4 d5 d6 d7 d8 d9 d10 j0 j1 j2 hMl hIl HCH HI2 HJ2 HRX
      have HRY := Lib.hid (OwnG.rowAt GId.len HO9.out).2
      obtain ⟨e0, e1, e2, e3, e4, e5, e6, e7, e8, e9, e10⟩ := HNQ.out.cells
      simp only at e0 e1 e2 e3 e4 e5 e6 e7 e8 e9 e10
      by_cases hq : q = 0
      rotate_left
      · have hz := HCZ.out hq
        have fq : (q != 0) = true := by simpa using hq
        simp only [zN, GN.mk.injEq, GId.mk.injEq] at hz
        obtain ⟨⟨rfl, rfl, rfl⟩, rfl, _⟩ := hz
        have heq : ∀ W, (Op.equalIn 10000 24 (.agg #[.int .i64 0, .int .i64 0, .int .i64 0]) (.agg #[.int .i64 0, .int .i64 0, .int .i64 0])).run Try.prog W = .ok true W := fun W => id_eql ⟨0, 0, 0⟩ ⟨0, 0, 0⟩ W
        clear hq HCL HCZ
        go_wp2_with fail
        go_fit (HAW.out _)
        rintro e w7 ⟨rfl, hb7⟩
        have HB7 := Lib.hid (beln HBX.out hb7)
        clear hb7
        go_wp2
        go_ret
        exact ⟨rfl, HB7.out⟩
      · subst hq
        obtain ⟨hv, hid, hcap, hh, hln⟩ := HCL.out rfl
        simp only [GId.mk.injEq] at hid
        simp only [GC.mk.injEq] at hcap
        obtain ⟨rfl, rfl, rfl⟩ := hid
        obtain ⟨rfl, rfl, rfl, rfl, rfl, rfl, rfl⟩ := hcap
        have hys8 := (vN_facts hv).2.2.1
        simp only at hys8 hh hln
        have hQl := HNQ.out.lt
        have hMl := HM9.out.lt
        obtain ⟨d0, d1, d2, d3, d4, d5, d6, d7, d8, d9, d10⟩ := HM9.out.cells
        obtain ⟨j0, j1, j2⟩ := HI9.out.cells
        obtain ⟨k0, k1, k2⟩ := HJ9.out.cells
        have hIl := HI9.out.lt
        have hJl := HJ9.out.lt
        simp only at d0 d1 d2 d3 d4 d5 d6 d7 d8 d9 d10 j0 j1 j2 k0 k1 k2
        have HPV := Lib.hid fun W (hW : Below wq.heap.size wq W) => pVN_any ⟨⟨y0, y1, y2⟩, ys, ⟨2, 4096, 12, 3, 0, 0, false⟩⟩ A9 c9 W (HRY.out.next hW) (by simp only; omega) hc9
        have HBN := Lib.hid fun (i0 i1 i2 : Int) W (hW : Below wq.heap.size wq W) => pBel_any ⟨⟨y0, y1, y2⟩, ys, ⟨2, 4096, 12, 3, 0, 0, false⟩⟩ A9 c9 ⟨i0, i1, i2⟩ W (HRY.out.next hW) (by simp only; omega) hc9
        have HBS := Lib.hid fun (i0 i1 i2 : Int) W (hW : Below wq.heap.size wq W) => pBel_any ⟨⟨s0, s1, s2⟩, ss, ⟨a0, a1, a2, a3, a4, a5, a6⟩⟩ A5 c5 ⟨i0, i1, i2⟩ W (HRS.out.next hW) (by simp only; omega) hc5
        rw [hv] at HPV
        simp only [GN.val, GId.val] at HPV HBN HBS
        have HHH := Lib.hid hh
        have HT1 : Hid (hasI ys ⟨s0, s1, s2⟩ = true) := Lib.hid (by rw [hh, (eqI_iff _ _).2 rfl]; rfl)
        have HE1 : Hid (∀ W, (Op.equalIn 10000 24 (.agg #[.int .i64 y0, .int .i64 y1, .int .i64 y2]) (.agg #[.int .i64 y0, .int .i64 y1, .int .i64 y2])).run Try.prog W = .ok true W) := Lib.hid fun W => by
          have := id_eql ⟨y0, y1, y2⟩ ⟨y0, y1, y2⟩ W
          rw [(eqI_iff _ _).2 rfl] at this
          exact this
        have HE2 : Hid (∀ W, (Op.equalIn 10000 28 (.agg #[.int .i64 2, .int .i64 4096, .int .i64 12, .int .i64 3, .int .i64 0, .int .i64 0, .bool false]) (.agg #[.int .i64 2, .int .i64 4096, .int .i64 12, .int .i64 3, .int .i64 0, .int .i64 0, .bool false])).run Try.prog W = .ok true W) := Lib.hid fun W => cap_eql pgC pgC W
        have HE3 : Hid (∀ W, (Op.equalIn 10000 24 (.agg #[.int .i64 r0, .int .i64 r1, .int .i64 r2]) (.agg #[.int .i64 s0, .int .i64 s1, .int .i64 s2])).run Try.prog W = .ok (eqI ⟨r0, r1, r2⟩ ⟨s0, s1, s2⟩) W) := Lib.hid fun W => id_eql ⟨r0, r1, r2⟩ ⟨s0, s1, s2⟩ W
        clear hv hh hln HCL HCZ HV
        go_upto_region 7 with fail
        have hS := (Below.refl wq.heap.size wq).drew
        refine wp_region_growS (S := fun W => Below wq.heap.size wq W) [(0, true), (1, false), (2, true), (3, true), (4, true), (5, true), (6, true), (7, false), (8, true), (9, true), (10, true), (11, true), (12, true), (13, true), (14, true), (15, true), (16, true), (17, true), (18, true), (19, false), (20, true), (21, true)] (by kernel_rfl) (by kernel_rfl) (by kernel_rfl) (by kernel_rfl) (by intro c a d v w h; cases d <;> exact h) hS ?_
        iterate 1
          (first
            | (refine wpGrowS_float (v := ?_) (by simp only [List.getElem?_toArray, List.getElem?_cons_zero]; rfl) (by rfl) ?_ ?_
               rotate_left
               · (intro W hW; have t0 := (hW.cell (p := ⟨Q, 0, none⟩) hQl).trans e0; have t1 := (hW.cell (p := ⟨Q, 1, none⟩) hQl).trans e1; have t2 := (hW.cell (p := ⟨Q, 2, none⟩) hQl).trans e2; have t3 := (hW.cell (p := ⟨Q, 3, none⟩) hQl).trans e3; have t4 := (hW.cell (p := ⟨Q, 4, none⟩) hQl).trans e4; have t5 := (hW.cell (p := ⟨Q, 5, none⟩) hQl).trans e5; have t6 := (hW.cell (p := ⟨Q, 6, none⟩) hQl).trans e6; have t7 := (hW.cell (p := ⟨Q, 7, none⟩) hQl).trans e7; have t8 := (hW.cell (p := ⟨Q, 8, none⟩) hQl).trans e8; have t9 := (hW.cell (p := ⟨Q, 9, none⟩) hQl).trans e9; have t10 := (hW.cell (p := ⟨Q, 10, none⟩) hQl).trans e10; have v0 := (hW.cell (p := ⟨M, 0, none⟩) hMl).trans d0; have v1 := (hW.cell (p := ⟨M, 1, none⟩) hMl).trans d1; have v2 := (hW.cell (p := ⟨M, 2, none⟩) hMl).trans d2; have v3 := (hW.cell (p := ⟨M, 3, none⟩) hMl).trans d3; have v4 := (hW.cell (p := ⟨M, 4, none⟩) hMl).trans d4; have v5 := (hW.cell (p := ⟨M, 5, none⟩) hMl).trans d5; have v6 := (hW.cell (p := ⟨M, 6, none⟩) hMl).trans d6; have v7 := (hW.cell (p := ⟨M, 7, none⟩) hMl).trans d7; have v8 := (hW.cell (p := ⟨M, 8, none⟩) hMl).trans d8; have v9 := (hW.cell (p := ⟨M, 9, none⟩) hMl).trans d9; have v10 := (hW.cell (p := ⟨M, 10, none⟩) hMl).trans d10; have u0 := (hW.cell (p := ⟨w.heap.size, 0, none⟩) hIl).trans j0; have u1 := (hW.cell (p := ⟨w.heap.size, 1, none⟩) hIl).trans j1; have u2 := (hW.cell (p := ⟨w.heap.size, 2, none⟩) hIl).trans j2; have o0 := (hW.cell (p := ⟨w.heap.size + 1, 0, none⟩) hJl).trans k0; have o1 := (hW.cell (p := ⟨w.heap.size + 1, 1, none⟩) hJl).trans k1; have o2 := (hW.cell (p := ⟨w.heap.size + 1, 2, none⟩) hJl).trans k2; have q1 := fun W => HE1.out W; have q2 := fun W => HE2.out W; have q3 := fun W => HE3.out W; (try simp only at *); go_simp; try with_reducible rfl)
               simp only [Act.put, List.setIfInBounds_toArray, List.set_cons_zero, List.set_cons_succ])
            | (refine wpGrowS_skip (by simp only [List.getElem?_toArray, List.getElem?_cons_zero]; rfl) (by rfl) ?_
               simp only [Act.put, List.setIfInBounds_toArray, List.set_cons_zero, List.set_cons_succ]))
        refine wpGrowS_call (by simp only [List.getElem?_toArray, List.getElem?_cons_succ, List.getElem?_cons_zero]; rfl) (by rfl) fun K hK => ?_
        go_simp
        go_fit (HPV.out _ hS)
        rintro e wn ⟨rfl, hbn⟩
        have hSp := hS
        have hS : Below wq.heap.size wq wn := beln hS hbn
        go_simp
        refine hK _ _ hS ?_
        clear hK K
        try simp only [Act.put, List.setIfInBounds_toArray, List.set_cons_zero, List.set_cons_succ]
        iterate 5
          (first
            | (refine wpGrowS_float (v := ?_) (by simp only [List.getElem?_toArray, List.getElem?_cons_succ, List.getElem?_cons_zero]; rfl) (by rfl) ?_ ?_
               rotate_left
               · (intro W hW; have t0 := (hW.cell (p := ⟨Q, 0, none⟩) hQl).trans e0; have t1 := (hW.cell (p := ⟨Q, 1, none⟩) hQl).trans e1; have t2 := (hW.cell (p := ⟨Q, 2, none⟩) hQl).trans e2; have t3 := (hW.cell (p := ⟨Q, 3, none⟩) hQl).trans e3; have t4 := (hW.cell (p := ⟨Q, 4, none⟩) hQl).trans e4; have t5 := (hW.cell (p := ⟨Q, 5, none⟩) hQl).trans e5; have t6 := (hW.cell (p := ⟨Q, 6, none⟩) hQl).trans e6; have t7 := (hW.cell (p := ⟨Q, 7, none⟩) hQl).trans e7; have t8 := (hW.cell (p := ⟨Q, 8, none⟩) hQl).trans e8; have t9 := (hW.cell (p := ⟨Q, 9, none⟩) hQl).trans e9; have t10 := (hW.cell (p := ⟨Q, 10, none⟩) hQl).trans e10; have v0 := (hW.cell (p := ⟨M, 0, none⟩) hMl).trans d0; have v1 := (hW.cell (p := ⟨M, 1, none⟩) hMl).trans d1; have v2 := (hW.cell (p := ⟨M, 2, none⟩) hMl).trans d2; have v3 := (hW.cell (p := ⟨M, 3, none⟩) hMl).trans d3; have v4 := (hW.cell (p := ⟨M, 4, none⟩) hMl).trans d4; have v5 := (hW.cell (p := ⟨M, 5, none⟩) hMl).trans d5; have v6 := (hW.cell (p := ⟨M, 6, none⟩) hMl).trans d6; have v7 := (hW.cell (p := ⟨M, 7, none⟩) hMl).trans d7; have v8 := (hW.cell (p := ⟨M, 8, none⟩) hMl).trans d8; have v9 := (hW.cell (p := ⟨M, 9, none⟩) hMl).trans d9; have v10 := (hW.cell (p := ⟨M, 10, none⟩) hMl).trans d10; have u0 := (hW.cell (p := ⟨w.heap.size, 0, none⟩) hIl).trans j0; have u1 := (hW.cell (p := ⟨w.heap.size, 1, none⟩) hIl).trans j1; have u2 := (hW.cell (p := ⟨w.heap.size, 2, none⟩) hIl).trans j2; have o0 := (hW.cell (p := ⟨w.heap.size + 1, 0, none⟩) hJl).trans k0; have o1 := (hW.cell (p := ⟨w.heap.size + 1, 1, none⟩) hJl).trans k1; have o2 := (hW.cell (p := ⟨w.heap.size + 1, 2, none⟩) hJl).trans k2; have q1 := fun W => HE1.out W; have q2 := fun W => HE2.out W; have q3 := fun W => HE3.out W; (try simp only at *); go_simp; try with_reducible rfl)
               simp only [Act.put, List.setIfInBounds_toArray, List.set_cons_zero, List.set_cons_succ])
            | (refine wpGrowS_skip (by simp only [List.getElem?_toArray, List.getElem?_cons_succ, List.getElem?_cons_zero]; rfl) (by rfl) ?_
               simp only [Act.put, List.setIfInBounds_toArray, List.set_cons_zero, List.set_cons_succ]))
        refine wpGrowS_call (by simp only [List.getElem?_toArray, List.getElem?_cons_succ, List.getElem?_cons_zero]; rfl) (by rfl) fun K hK => ?_
        go_simp
        go_fit (HBN.out _ _ _ _ hS)
        rintro e wn ⟨rfl, hbn⟩
        have hSp := hS
        have hS : Below wq.heap.size wq wn := beln hS hbn
        rw [HT1.out]
        go_simp
        refine hK _ _ hS ?_
        clear hK K
        try simp only [Act.put, List.setIfInBounds_toArray, List.set_cons_zero, List.set_cons_succ]
        iterate 11
          (first
            | (refine wpGrowS_float (v := ?_) (by simp only [List.getElem?_toArray, List.getElem?_cons_succ, List.getElem?_cons_zero]; rfl) (by rfl) ?_ ?_
               rotate_left
               · (intro W hW; have t0 := (hW.cell (p := ⟨Q, 0, none⟩) hQl).trans e0; have t1 := (hW.cell (p := ⟨Q, 1, none⟩) hQl).trans e1; have t2 := (hW.cell (p := ⟨Q, 2, none⟩) hQl).trans e2; have t3 := (hW.cell (p := ⟨Q, 3, none⟩) hQl).trans e3; have t4 := (hW.cell (p := ⟨Q, 4, none⟩) hQl).trans e4; have t5 := (hW.cell (p := ⟨Q, 5, none⟩) hQl).trans e5; have t6 := (hW.cell (p := ⟨Q, 6, none⟩) hQl).trans e6; have t7 := (hW.cell (p := ⟨Q, 7, none⟩) hQl).trans e7; have t8 := (hW.cell (p := ⟨Q, 8, none⟩) hQl).trans e8; have t9 := (hW.cell (p := ⟨Q, 9, none⟩) hQl).trans e9; have t10 := (hW.cell (p := ⟨Q, 10, none⟩) hQl).trans e10; have v0 := (hW.cell (p := ⟨M, 0, none⟩) hMl).trans d0; have v1 := (hW.cell (p := ⟨M, 1, none⟩) hMl).trans d1; have v2 := (hW.cell (p := ⟨M, 2, none⟩) hMl).trans d2; have v3 := (hW.cell (p := ⟨M, 3, none⟩) hMl).trans d3; have v4 := (hW.cell (p := ⟨M, 4, none⟩) hMl).trans d4; have v5 := (hW.cell (p := ⟨M, 5, none⟩) hMl).trans d5; have v6 := (hW.cell (p := ⟨M, 6, none⟩) hMl).trans d6; have v7 := (hW.cell (p := ⟨M, 7, none⟩) hMl).trans d7; have v8 := (hW.cell (p := ⟨M, 8, none⟩) hMl).trans d8; have v9 := (hW.cell (p := ⟨M, 9, none⟩) hMl).trans d9; have v10 := (hW.cell (p := ⟨M, 10, none⟩) hMl).trans d10; have u0 := (hW.cell (p := ⟨w.heap.size, 0, none⟩) hIl).trans j0; have u1 := (hW.cell (p := ⟨w.heap.size, 1, none⟩) hIl).trans j1; have u2 := (hW.cell (p := ⟨w.heap.size, 2, none⟩) hIl).trans j2; have o0 := (hW.cell (p := ⟨w.heap.size + 1, 0, none⟩) hJl).trans k0; have o1 := (hW.cell (p := ⟨w.heap.size + 1, 1, none⟩) hJl).trans k1; have o2 := (hW.cell (p := ⟨w.heap.size + 1, 2, none⟩) hJl).trans k2; have q1 := fun W => HE1.out W; have q2 := fun W => HE2.out W; have q3 := fun W => HE3.out W; (try simp only at *); go_simp; try with_reducible rfl)
               simp only [Act.put, List.setIfInBounds_toArray, List.set_cons_zero, List.set_cons_succ])
            | (refine wpGrowS_skip (by simp only [List.getElem?_toArray, List.getElem?_cons_succ, List.getElem?_cons_zero]; rfl) (by rfl) ?_
               simp only [Act.put, List.setIfInBounds_toArray, List.set_cons_zero, List.set_cons_succ]))
        refine wpGrowS_call (by simp only [List.getElem?_toArray, List.getElem?_cons_succ, List.getElem?_cons_zero]; rfl) (by rfl) fun K hK => ?_
        go_simp
        go_fit (HPG.out _)
        rintro e wn ⟨rfl, hbn⟩
        have hSp := hS
        have hS : Below wq.heap.size wq wn := beln hS hbn
        go_simp
        refine hK _ _ hS ?_
        clear hK K
        try simp only [Act.put, List.setIfInBounds_toArray, List.set_cons_zero, List.set_cons_succ]
        iterate 2
          (first
            | (refine wpGrowS_float (v := ?_) (by simp only [List.getElem?_toArray, List.getElem?_cons_succ, List.getElem?_cons_zero]; rfl) (by rfl) ?_ ?_
               rotate_left
               · (intro W hW; have t0 := (hW.cell (p := ⟨Q, 0, none⟩) hQl).trans e0; have t1 := (hW.cell (p := ⟨Q, 1, none⟩) hQl).trans e1; have t2 := (hW.cell (p := ⟨Q, 2, none⟩) hQl).trans e2; have t3 := (hW.cell (p := ⟨Q, 3, none⟩) hQl).trans e3; have t4 := (hW.cell (p := ⟨Q, 4, none⟩) hQl).trans e4; have t5 := (hW.cell (p := ⟨Q, 5, none⟩) hQl).trans e5; have t6 := (hW.cell (p := ⟨Q, 6, none⟩) hQl).trans e6; have t7 := (hW.cell (p := ⟨Q, 7, none⟩) hQl).trans e7; have t8 := (hW.cell (p := ⟨Q, 8, none⟩) hQl).trans e8; have t9 := (hW.cell (p := ⟨Q, 9, none⟩) hQl).trans e9; have t10 := (hW.cell (p := ⟨Q, 10, none⟩) hQl).trans e10; have v0 := (hW.cell (p := ⟨M, 0, none⟩) hMl).trans d0; have v1 := (hW.cell (p := ⟨M, 1, none⟩) hMl).trans d1; have v2 := (hW.cell (p := ⟨M, 2, none⟩) hMl).trans d2; have v3 := (hW.cell (p := ⟨M, 3, none⟩) hMl).trans d3; have v4 := (hW.cell (p := ⟨M, 4, none⟩) hMl).trans d4; have v5 := (hW.cell (p := ⟨M, 5, none⟩) hMl).trans d5; have v6 := (hW.cell (p := ⟨M, 6, none⟩) hMl).trans d6; have v7 := (hW.cell (p := ⟨M, 7, none⟩) hMl).trans d7; have v8 := (hW.cell (p := ⟨M, 8, none⟩) hMl).trans d8; have v9 := (hW.cell (p := ⟨M, 9, none⟩) hMl).trans d9; have v10 := (hW.cell (p := ⟨M, 10, none⟩) hMl).trans d10; have u0 := (hW.cell (p := ⟨w.heap.size, 0, none⟩) hIl).trans j0; have u1 := (hW.cell (p := ⟨w.heap.size, 1, none⟩) hIl).trans j1; have u2 := (hW.cell (p := ⟨w.heap.size, 2, none⟩) hIl).trans j2; have o0 := (hW.cell (p := ⟨w.heap.size + 1, 0, none⟩) hJl).trans k0; have o1 := (hW.cell (p := ⟨w.heap.size + 1, 1, none⟩) hJl).trans k1; have o2 := (hW.cell (p := ⟨w.heap.size + 1, 2, none⟩) hJl).trans k2; have q1 := fun W => HE1.out W; have q2 := fun W => HE2.out W; have q3 := fun W => HE3.out W; (try simp only at *); go_simp; try with_reducible rfl)
               simp only [Act.put, List.setIfInBounds_toArray, List.set_cons_zero, List.set_cons_succ])
            | (refine wpGrowS_skip (by simp only [List.getElem?_toArray, List.getElem?_cons_succ, List.getElem?_cons_zero]; rfl) (by rfl) ?_
               simp only [Act.put, List.setIfInBounds_toArray, List.set_cons_zero, List.set_cons_succ]))
        refine wpGrowS_nil ?_
        have HBY := Lib.hid hS
        clear hS e0 e1 e2 e3 e4 e5 e6 e7 e8 e9 e10 d0 d1 d2 d3 d4 d5 d6 d7 d8 d9 d10 j0 j1 j2 k0 k1 k2 HPV HT1 HE2
        go_wp2
        go_loopw [16] (fun vi wr => ∃ k : Nat, vi = .int .i64 k ∧ k ≤ ss.length ∧ Hid (Below wq.heap.size wq wr)) (fun vi _ => ss.length - (intOf vi).toNat)
        case atStart => exact ⟨0, rfl, Nat.zero_le _, HBY⟩
        case round =>
          obtain ⟨k, rfl, hk, HB⟩ := hrel
          have HNR := Lib.hid (HNQ.out.next HB.out)
          have HMR := Lib.hid (HM9.out.next HB.out)
          have HIR := Lib.hid (HI9.out.next HB.out)
          have HJR := Lib.hid (HJ9.out.next HB.out)
          have hQr := HNR.out.lt
          have hMr := HMR.out.lt
          have hIr := HIR.out.lt
          have hJr := HJR.out.lt
          obtain ⟨f0, f1, f2, f3, f4, f5, f6, f7, f8, f9, f10⟩ := HNR.out.cells
          obtain ⟨g0, g1, g2, g3, g4, g5, g6, g7, g8, g9, g10⟩ := HMR.out.cells
          obtain ⟨j0, j1, j2⟩ := HIR.out.cells
          obtain ⟨k0, k1, k2⟩ := HJR.out.cells
          simp only at f0 f1 f2 f3 f4 f5 f6 f7 f8 f9 f10 g0 g1 g2 g3 g4 g5 g6 g7 g8 g9 g10 j0 j1 j2 k0 k1 k2
          rcases Nat.lt_or_ge k ss.length with hlt | hge
          · obtain ⟨b1, o1, rfl, hb1, x0, x1, x2⟩ := (HRS.out.next HB.out).gid hlt
            have HT2 : Hid (hasI ys ss[k] = true) := Lib.hid (by
              rw [HHH.out]
              have : hasI ss ss[k] = true := by unfold hasI; simp
              rw [this, Bool.or_true])
            generalize ss[k] = z at *
            obtain ⟨z0, z1, z2⟩ := z
            simp only at x0 x1 x2
            have HBM := Lib.hid fun W (hW : Below wr.heap.size wr W) => HBN.out z0 z1 z2 W (beln HB.out hW)
            clear j0 j1 j2 k0 k1 k2
            go_upto_region 12 with fail
            have hS := (Below.refl wr.heap.size wr).drew
            have hk0 : 0 ≤ (k : Int) := by omega
            have hk1 : (k : Int) < (ss.length : Int) := by omega
            have hk2 : (k : Int).toNat = k := by omega
            refine wp_region_growS (S := fun W => Below wr.heap.size wr W) [(0, true), (1, true), (2, true), (3, true), (4, true), (5, true), (6, false), (7, true)] (by kernel_rfl) (by kernel_rfl) (by kernel_rfl) (by kernel_rfl) (by intro c a d v w h; cases d <;> exact h) hS ?_
            iterate 6
              (first
                | (refine wpGrowS_float (v := ?_) (by simp only [List.getElem?_toArray, List.getElem?_cons_succ, List.getElem?_cons_zero]; rfl) (by rfl) ?_ ?_
                   rotate_left
                   · (intro W hW; have t0 := (hW.cell (p := ⟨Q, 0, none⟩) hQr).trans f0; have t1 := (hW.cell (p := ⟨Q, 1, none⟩) hQr).trans f1; have t2 := (hW.cell (p := ⟨Q, 2, none⟩) hQr).trans f2; have t3 := (hW.cell (p := ⟨Q, 3, none⟩) hQr).trans f3; have t4 := (hW.cell (p := ⟨Q, 4, none⟩) hQr).trans f4; have t5 := (hW.cell (p := ⟨Q, 5, none⟩) hQr).trans f5; have t6 := (hW.cell (p := ⟨Q, 6, none⟩) hQr).trans f6; have t7 := (hW.cell (p := ⟨Q, 7, none⟩) hQr).trans f7; have t8 := (hW.cell (p := ⟨Q, 8, none⟩) hQr).trans f8; have t9 := (hW.cell (p := ⟨Q, 9, none⟩) hQr).trans f9; have t10 := (hW.cell (p := ⟨Q, 10, none⟩) hQr).trans f10; have v0 := (hW.cell (p := ⟨M, 0, none⟩) hMr).trans g0; have v1 := (hW.cell (p := ⟨M, 1, none⟩) hMr).trans g1; have v2 := (hW.cell (p := ⟨M, 2, none⟩) hMr).trans g2; have v3 := (hW.cell (p := ⟨M, 3, none⟩) hMr).trans g3; have v4 := (hW.cell (p := ⟨M, 4, none⟩) hMr).trans g4; have v5 := (hW.cell (p := ⟨M, 5, none⟩) hMr).trans g5; have v6 := (hW.cell (p := ⟨M, 6, none⟩) hMr).trans g6; have v7 := (hW.cell (p := ⟨M, 7, none⟩) hMr).trans g7; have v8 := (hW.cell (p := ⟨M, 8, none⟩) hMr).trans g8; have v9 := (hW.cell (p := ⟨M, 9, none⟩) hMr).trans g9; have v10 := (hW.cell (p := ⟨M, 10, none⟩) hMr).trans g10; have x0' := (hW.cell (p := ⟨b1, o1 + k * 3, none⟩) hb1).trans x0; have x1' := (hW.cell (p := ⟨b1, o1 + k * 3 + 1, none⟩) hb1).trans x1; have x2' := (hW.cell (p := ⟨b1, o1 + k * 3 + 2, none⟩) hb1).trans x2; (try simp only at *); go_simp; try with_reducible rfl)
                   simp only [Act.put, List.setIfInBounds_toArray, List.set_cons_zero, List.set_cons_succ])
                | (refine wpGrowS_skip (by simp only [List.getElem?_toArray, List.getElem?_cons_succ, List.getElem?_cons_zero]; rfl) (by rfl) ?_
                   simp only [Act.put, List.setIfInBounds_toArray, List.set_cons_zero, List.set_cons_succ]))
            refine wpGrowS_call (by simp only [List.getElem?_toArray, List.getElem?_cons_succ, List.getElem?_cons_zero]; rfl) (by rfl) fun K hK => ?_
            go_simp
            go_fit (HBM.out _ hS)
            rintro e wn ⟨rfl, hbn⟩
            have hSp := hS
            have hS : Below wr.heap.size wr wn := beln hS hbn
            rw [HT2.out]
            go_simp
            refine hK _ _ hS ?_
            clear hK K
            try simp only [Act.put, List.setIfInBounds_toArray, List.set_cons_zero, List.set_cons_succ]
            iterate 1
              (first
                | (refine wpGrowS_float (v := ?_) (by simp only [List.getElem?_toArray, List.getElem?_cons_succ, List.getElem?_cons_zero]; rfl) (by rfl) ?_ ?_
                   rotate_left
                   · (intro W hW; have t0 := (hW.cell (p := ⟨Q, 0, none⟩) hQr).trans f0; have t1 := (hW.cell (p := ⟨Q, 1, none⟩) hQr).trans f1; have t2 := (hW.cell (p := ⟨Q, 2, none⟩) hQr).trans f2; have t3 := (hW.cell (p := ⟨Q, 3, none⟩) hQr).trans f3; have t4 := (hW.cell (p := ⟨Q, 4, none⟩) hQr).trans f4; have t5 := (hW.cell (p := ⟨Q, 5, none⟩) hQr).trans f5; have t6 := (hW.cell (p := ⟨Q, 6, none⟩) hQr).trans f6; have t7 := (hW.cell (p := ⟨Q, 7, none⟩) hQr).trans f7; have t8 := (hW.cell (p := ⟨Q, 8, none⟩) hQr).trans f8; have t9 := (hW.cell (p := ⟨Q, 9, none⟩) hQr).trans f9; have t10 := (hW.cell (p := ⟨Q, 10, none⟩) hQr).trans f10; have v0 := (hW.cell (p := ⟨M, 0, none⟩) hMr).trans g0; have v1 := (hW.cell (p := ⟨M, 1, none⟩) hMr).trans g1; have v2 := (hW.cell (p := ⟨M, 2, none⟩) hMr).trans g2; have v3 := (hW.cell (p := ⟨M, 3, none⟩) hMr).trans g3; have v4 := (hW.cell (p := ⟨M, 4, none⟩) hMr).trans g4; have v5 := (hW.cell (p := ⟨M, 5, none⟩) hMr).trans g5; have v6 := (hW.cell (p := ⟨M, 6, none⟩) hMr).trans g6; have v7 := (hW.cell (p := ⟨M, 7, none⟩) hMr).trans g7; have v8 := (hW.cell (p := ⟨M, 8, none⟩) hMr).trans g8; have v9 := (hW.cell (p := ⟨M, 9, none⟩) hMr).trans g9; have v10 := (hW.cell (p := ⟨M, 10, none⟩) hMr).trans g10; have x0' := (hW.cell (p := ⟨b1, o1 + k * 3, none⟩) hb1).trans x0; have x1' := (hW.cell (p := ⟨b1, o1 + k * 3 + 1, none⟩) hb1).trans x1; have x2' := (hW.cell (p := ⟨b1, o1 + k * 3 + 2, none⟩) hb1).trans x2; (try simp only at *); go_simp; try with_reducible rfl)
                   simp only [Act.put, List.setIfInBounds_toArray, List.set_cons_zero, List.set_cons_succ])
                | (refine wpGrowS_skip (by simp only [List.getElem?_toArray, List.getElem?_cons_succ, List.getElem?_cons_zero]; rfl) (by rfl) ?_
                   simp only [Act.put, List.setIfInBounds_toArray, List.set_cons_zero, List.set_cons_succ]))
            refine wpGrowS_nil ?_
            have HBZ := Lib.hid (beln HB.out hS)
            clear hS f0 f1 f2 f3 f4 f5 f6 f7 f8 f9 f10 g0 g1 g2 g3 g4 g5 g6 g7 g8 g9 g10 x0 x1 x2
            go_wp2
            go_roundw
            case rel => exact ⟨k + 1, by go_num, by omega, HBZ⟩
            case measure => simp [intOf]; omega
          · rcases he : eqI ⟨r0, r1, r2⟩ ⟨s0, s1, s2⟩ with _ | _
            · have HBN2 := Lib.hid fun W (hW : Below wq.heap.size wq W) => HBN.out r0 r1 r2 W hW
              have HBS2 := Lib.hid fun W (hW : Below wq.heap.size wq W) => HBS.out r0 r1 r2 W hW
              rw [HHH.out, he, Bool.false_or] at HBN2
              rw [he] at HE3
              clear he HBN HBS HHH
              generalize hasI ss ⟨r0, r1, r2⟩ = bb at *
              have fbb : (bb == bb) = true := by simp
              go_upto_region 14 with fail
              clear f0 f1 f2 f3 f4 f5 f6 f7 f8 f9 f10 g0 g1 g2 g3 g4 g5 g6 g7 g8 g9 g10 j0 j1 j2 k0 k1 k2
              obtain ⟨e0, e1, e2, e3, e4, e5, e6, e7, e8, e9, e10⟩ := HNQ.out.cells
              obtain ⟨d0, d1, d2, d3, d4, d5, d6, d7, d8, d9, d10⟩ := HM9.out.cells
              obtain ⟨j0, j1, j2⟩ := HI9.out.cells
              obtain ⟨k0, k1, k2⟩ := HJ9.out.cells
              simp only at e0 e1 e2 e3 e4 e5 e6 e7 e8 e9 e10 d0 d1 d2 d3 d4 d5 d6 d7 d8 d9 d10 j0 j1 j2 k0 k1 k2
              have hS := HB.out.drew
              refine wp_region_growS (S := fun W => Below wq.heap.size wq W) [(0, true), (1, true), (3, true), (4, true), (5, true), (6, true), (2, false), (7, true), (8, true), (9, true), (10, false), (11, true), (12, true), (13, true), (14, false), (15, true), (16, true)] (by kernel_rfl) (by kernel_rfl) (by kernel_rfl) (by kernel_rfl) (by intro c a d v w h; cases d <;> exact h) hS ?_
              iterate 6
                (first
                  | (refine wpGrowS_float (v := ?_) (by simp only [List.getElem?_toArray, List.getElem?_cons_succ, List.getElem?_cons_zero]; rfl) (by rfl) ?_ ?_
                     rotate_left
                     · (intro W hW; have t0 := (hW.cell (p := ⟨Q, 0, none⟩) hQl).trans e0; have t1 := (hW.cell (p := ⟨Q, 1, none⟩) hQl).trans e1; have t2 := (hW.cell (p := ⟨Q, 2, none⟩) hQl).trans e2; have t3 := (hW.cell (p := ⟨Q, 3, none⟩) hQl).trans e3; have t4 := (hW.cell (p := ⟨Q, 4, none⟩) hQl).trans e4; have t5 := (hW.cell (p := ⟨Q, 5, none⟩) hQl).trans e5; have t6 := (hW.cell (p := ⟨Q, 6, none⟩) hQl).trans e6; have t7 := (hW.cell (p := ⟨Q, 7, none⟩) hQl).trans e7; have t8 := (hW.cell (p := ⟨Q, 8, none⟩) hQl).trans e8; have t9 := (hW.cell (p := ⟨Q, 9, none⟩) hQl).trans e9; have t10 := (hW.cell (p := ⟨Q, 10, none⟩) hQl).trans e10; have v0 := (hW.cell (p := ⟨M, 0, none⟩) hMl).trans d0; have v1 := (hW.cell (p := ⟨M, 1, none⟩) hMl).trans d1; have v2 := (hW.cell (p := ⟨M, 2, none⟩) hMl).trans d2; have v3 := (hW.cell (p := ⟨M, 3, none⟩) hMl).trans d3; have v4 := (hW.cell (p := ⟨M, 4, none⟩) hMl).trans d4; have v5 := (hW.cell (p := ⟨M, 5, none⟩) hMl).trans d5; have v6 := (hW.cell (p := ⟨M, 6, none⟩) hMl).trans d6; have v7 := (hW.cell (p := ⟨M, 7, none⟩) hMl).trans d7; have v8 := (hW.cell (p := ⟨M, 8, none⟩) hMl).trans d8; have v9 := (hW.cell (p := ⟨M, 9, none⟩) hMl).trans d9; have v10 := (hW.cell (p := ⟨M, 10, none⟩) hMl).trans d10; have u0 := (hW.cell (p := ⟨w.heap.size, 0, none⟩) hIl).trans j0; have u1 := (hW.cell (p := ⟨w.heap.size, 1, none⟩) hIl).trans j1; have u2 := (hW.cell (p := ⟨w.heap.size, 2, none⟩) hIl).trans j2; have o0 := (hW.cell (p := ⟨w.heap.size + 1, 0, none⟩) hJl).trans k0; have o1 := (hW.cell (p := ⟨w.heap.size + 1, 1, none⟩) hJl).trans k1; have o2 := (hW.cell (p := ⟨w.heap.size + 1, 2, none⟩) hJl).trans k2; have q1 := fun W => HE1.out W; have q3 := fun W => HE3.out W; (try simp only at *); go_simp; try with_reducible rfl)
                     simp only [Act.put, List.setIfInBounds_toArray, List.set_cons_zero, List.set_cons_succ])
                  | (refine wpGrowS_skip (by simp only [List.getElem?_toArray, List.getElem?_cons_succ, List.getElem?_cons_zero]; rfl) (by rfl) ?_
                     simp only [Act.put, List.setIfInBounds_toArray, List.set_cons_zero, List.set_cons_succ]))
              refine wpGrowS_call (by simp only [List.getElem?_toArray, List.getElem?_cons_succ, List.getElem?_cons_zero]; rfl) (by rfl) fun K hK => ?_
              go_simp
              go_fit (HBN2.out _ hS)
              rintro e wn ⟨rfl, hbn⟩
              have hSp := hS
              have hS : Below wq.heap.size wq wn := beln hS hbn
              go_simp
              refine hK _ _ hS ?_
              clear hK K
              try simp only [Act.put, List.setIfInBounds_toArray, List.set_cons_zero, List.set_cons_succ]
              iterate 3
                (first
                  | (refine wpGrowS_float (v := ?_) (by simp only [List.getElem?_toArray, List.getElem?_cons_succ, List.getElem?_cons_zero]; rfl) (by rfl) ?_ ?_
                     rotate_left
                     · (intro W hW; have t0 := (hW.cell (p := ⟨Q, 0, none⟩) hQl).trans e0; have t1 := (hW.cell (p := ⟨Q, 1, none⟩) hQl).trans e1; have t2 := (hW.cell (p := ⟨Q, 2, none⟩) hQl).trans e2; have t3 := (hW.cell (p := ⟨Q, 3, none⟩) hQl).trans e3; have t4 := (hW.cell (p := ⟨Q, 4, none⟩) hQl).trans e4; have t5 := (hW.cell (p := ⟨Q, 5, none⟩) hQl).trans e5; have t6 := (hW.cell (p := ⟨Q, 6, none⟩) hQl).trans e6; have t7 := (hW.cell (p := ⟨Q, 7, none⟩) hQl).trans e7; have t8 := (hW.cell (p := ⟨Q, 8, none⟩) hQl).trans e8; have t9 := (hW.cell (p := ⟨Q, 9, none⟩) hQl).trans e9; have t10 := (hW.cell (p := ⟨Q, 10, none⟩) hQl).trans e10; have v0 := (hW.cell (p := ⟨M, 0, none⟩) hMl).trans d0; have v1 := (hW.cell (p := ⟨M, 1, none⟩) hMl).trans d1; have v2 := (hW.cell (p := ⟨M, 2, none⟩) hMl).trans d2; have v3 := (hW.cell (p := ⟨M, 3, none⟩) hMl).trans d3; have v4 := (hW.cell (p := ⟨M, 4, none⟩) hMl).trans d4; have v5 := (hW.cell (p := ⟨M, 5, none⟩) hMl).trans d5; have v6 := (hW.cell (p := ⟨M, 6, none⟩) hMl).trans d6; have v7 := (hW.cell (p := ⟨M, 7, none⟩) hMl).trans d7; have v8 := (hW.cell (p := ⟨M, 8, none⟩) hMl).trans d8; have v9 := (hW.cell (p := ⟨M, 9, none⟩) hMl).trans d9; have v10 := (hW.cell (p := ⟨M, 10, none⟩) hMl).trans d10; have u0 := (hW.cell (p := ⟨w.heap.size, 0, none⟩) hIl).trans j0; have u1 := (hW.cell (p := ⟨w.heap.size, 1, none⟩) hIl).trans j1; have u2 := (hW.cell (p := ⟨w.heap.size, 2, none⟩) hIl).trans j2; have o0 := (hW.cell (p := ⟨w.heap.size + 1, 0, none⟩) hJl).trans k0; have o1 := (hW.cell (p := ⟨w.heap.size + 1, 1, none⟩) hJl).trans k1; have o2 := (hW.cell (p := ⟨w.heap.size + 1, 2, none⟩) hJl).trans k2; have q1 := fun W => HE1.out W; have q3 := fun W => HE3.out W; (try simp only at *); go_simp; try with_reducible rfl)
                     simp only [Act.put, List.setIfInBounds_toArray, List.set_cons_zero, List.set_cons_succ])
                  | (refine wpGrowS_skip (by simp only [List.getElem?_toArray, List.getElem?_cons_succ, List.getElem?_cons_zero]; rfl) (by rfl) ?_
                     simp only [Act.put, List.setIfInBounds_toArray, List.set_cons_zero, List.set_cons_succ]))
              refine wpGrowS_call (by simp only [List.getElem?_toArray, List.getElem?_cons_succ, List.getElem?_cons_zero]; rfl) (by rfl) fun K hK => ?_
              go_simp
              go_fit (HBS2.out _ hS)
              rintro e wn ⟨rfl, hbn⟩
              have hSp := hS
              have hS : Below wq.heap.size wq wn := beln hS hbn
              go_simp
              refine hK _ _ hS ?_
              clear hK K
              try simp only [Act.put, List.setIfInBounds_toArray, List.set_cons_zero, List.set_cons_succ]
              iterate 3
                (first
                  | (refine wpGrowS_float (v := ?_) (by simp only [List.getElem?_toArray, List.getElem?_cons_succ, List.getElem?_cons_zero]; rfl) (by rfl) ?_ ?_
                     rotate_left
                     · (intro W hW; have t0 := (hW.cell (p := ⟨Q, 0, none⟩) hQl).trans e0; have t1 := (hW.cell (p := ⟨Q, 1, none⟩) hQl).trans e1; have t2 := (hW.cell (p := ⟨Q, 2, none⟩) hQl).trans e2; have t3 := (hW.cell (p := ⟨Q, 3, none⟩) hQl).trans e3; have t4 := (hW.cell (p := ⟨Q, 4, none⟩) hQl).trans e4; have t5 := (hW.cell (p := ⟨Q, 5, none⟩) hQl).trans e5; have t6 := (hW.cell (p := ⟨Q, 6, none⟩) hQl).trans e6; have t7 := (hW.cell (p := ⟨Q, 7, none⟩) hQl).trans e7; have t8 := (hW.cell (p := ⟨Q, 8, none⟩) hQl).trans e8; have t9 := (hW.cell (p := ⟨Q, 9, none⟩) hQl).trans e9; have t10 := (hW.cell (p := ⟨Q, 10, none⟩) hQl).trans e10; have v0 := (hW.cell (p := ⟨M, 0, none⟩) hMl).trans d0; have v1 := (hW.cell (p := ⟨M, 1, none⟩) hMl).trans d1; have v2 := (hW.cell (p := ⟨M, 2, none⟩) hMl).trans d2; have v3 := (hW.cell (p := ⟨M, 3, none⟩) hMl).trans d3; have v4 := (hW.cell (p := ⟨M, 4, none⟩) hMl).trans d4; have v5 := (hW.cell (p := ⟨M, 5, none⟩) hMl).trans d5; have v6 := (hW.cell (p := ⟨M, 6, none⟩) hMl).trans d6; have v7 := (hW.cell (p := ⟨M, 7, none⟩) hMl).trans d7; have v8 := (hW.cell (p := ⟨M, 8, none⟩) hMl).trans d8; have v9 := (hW.cell (p := ⟨M, 9, none⟩) hMl).trans d9; have v10 := (hW.cell (p := ⟨M, 10, none⟩) hMl).trans d10; have u0 := (hW.cell (p := ⟨w.heap.size, 0, none⟩) hIl).trans j0; have u1 := (hW.cell (p := ⟨w.heap.size, 1, none⟩) hIl).trans j1; have u2 := (hW.cell (p := ⟨w.heap.size, 2, none⟩) hIl).trans j2; have o0 := (hW.cell (p := ⟨w.heap.size + 1, 0, none⟩) hJl).trans k0; have o1 := (hW.cell (p := ⟨w.heap.size + 1, 1, none⟩) hJl).trans k1; have o2 := (hW.cell (p := ⟨w.heap.size + 1, 2, none⟩) hJl).trans k2; have q1 := fun W => HE1.out W; have q3 := fun W => HE3.out W; (try simp only at *); go_simp; try with_reducible rfl)
                     simp only [Act.put, List.setIfInBounds_toArray, List.set_cons_zero, List.set_cons_succ])
                  | (refine wpGrowS_skip (by simp only [List.getElem?_toArray, List.getElem?_cons_succ, List.getElem?_cons_zero]; rfl) (by rfl) ?_
                     simp only [Act.put, List.setIfInBounds_toArray, List.set_cons_zero, List.set_cons_succ]))
              refine wpGrowS_call (by simp only [List.getElem?_toArray, List.getElem?_cons_succ, List.getElem?_cons_zero]; rfl) (by rfl) fun K hK => ?_
              go_simp
              go_fit (HAW.out _)
              rintro e wn ⟨rfl, hbn⟩
              have hSp := hS
              have hS : Below wq.heap.size wq wn := beln hS hbn
              go_simp
              refine hK _ _ hS ?_
              clear hK K
              try simp only [Act.put, List.setIfInBounds_toArray, List.set_cons_zero, List.set_cons_succ]
              iterate 2
                (first
                  | (refine wpGrowS_float (v := ?_) (by simp only [List.getElem?_toArray, List.getElem?_cons_succ, List.getElem?_cons_zero]; rfl) (by rfl) ?_ ?_
                     rotate_left
                     · (intro W hW; have t0 := (hW.cell (p := ⟨Q, 0, none⟩) hQl).trans e0; have t1 := (hW.cell (p := ⟨Q, 1, none⟩) hQl).trans e1; have t2 := (hW.cell (p := ⟨Q, 2, none⟩) hQl).trans e2; have t3 := (hW.cell (p := ⟨Q, 3, none⟩) hQl).trans e3; have t4 := (hW.cell (p := ⟨Q, 4, none⟩) hQl).trans e4; have t5 := (hW.cell (p := ⟨Q, 5, none⟩) hQl).trans e5; have t6 := (hW.cell (p := ⟨Q, 6, none⟩) hQl).trans e6; have t7 := (hW.cell (p := ⟨Q, 7, none⟩) hQl).trans e7; have t8 := (hW.cell (p := ⟨Q, 8, none⟩) hQl).trans e8; have t9 := (hW.cell (p := ⟨Q, 9, none⟩) hQl).trans e9; have t10 := (hW.cell (p := ⟨Q, 10, none⟩) hQl).trans e10; have v0 := (hW.cell (p := ⟨M, 0, none⟩) hMl).trans d0; have v1 := (hW.cell (p := ⟨M, 1, none⟩) hMl).trans d1; have v2 := (hW.cell (p := ⟨M, 2, none⟩) hMl).trans d2; have v3 := (hW.cell (p := ⟨M, 3, none⟩) hMl).trans d3; have v4 := (hW.cell (p := ⟨M, 4, none⟩) hMl).trans d4; have v5 := (hW.cell (p := ⟨M, 5, none⟩) hMl).trans d5; have v6 := (hW.cell (p := ⟨M, 6, none⟩) hMl).trans d6; have v7 := (hW.cell (p := ⟨M, 7, none⟩) hMl).trans d7; have v8 := (hW.cell (p := ⟨M, 8, none⟩) hMl).trans d8; have v9 := (hW.cell (p := ⟨M, 9, none⟩) hMl).trans d9; have v10 := (hW.cell (p := ⟨M, 10, none⟩) hMl).trans d10; have u0 := (hW.cell (p := ⟨w.heap.size, 0, none⟩) hIl).trans j0; have u1 := (hW.cell (p := ⟨w.heap.size, 1, none⟩) hIl).trans j1; have u2 := (hW.cell (p := ⟨w.heap.size, 2, none⟩) hIl).trans j2; have o0 := (hW.cell (p := ⟨w.heap.size + 1, 0, none⟩) hJl).trans k0; have o1 := (hW.cell (p := ⟨w.heap.size + 1, 1, none⟩) hJl).trans k1; have o2 := (hW.cell (p := ⟨w.heap.size + 1, 2, none⟩) hJl).trans k2; have q1 := fun W => HE1.out W; have q3 := fun W => HE3.out W; (try simp only at *); go_simp; try with_reducible rfl)
                     simp only [Act.put, List.setIfInBounds_toArray, List.set_cons_zero, List.set_cons_succ])
                  | (refine wpGrowS_skip (by simp only [List.getElem?_toArray, List.getElem?_cons_succ, List.getElem?_cons_zero]; rfl) (by rfl) ?_
                     simp only [Act.put, List.setIfInBounds_toArray, List.set_cons_zero, List.set_cons_succ]))
              refine wpGrowS_nil ?_
              have HF := Lib.hid hS
              clear hS
              go_wp2
              go_ret
              exact ⟨rfl, beln HBX.out HF.out⟩
            · have HBN2 := Lib.hid fun W (hW : Below wq.heap.size wq W) => HBN.out r0 r1 r2 W hW
              rw [HHH.out, he, Bool.true_or] at HBN2
              rw [he] at HE3
              clear he HBN HBS HHH
              go_upto_region 14 with fail
              clear f0 f1 f2 f3 f4 f5 f6 f7 f8 f9 f10 g0 g1 g2 g3 g4 g5 g6 g7 g8 g9 g10 j0 j1 j2 k0 k1 k2
              obtain ⟨e0, e1, e2, e3, e4, e5, e6, e7, e8, e9, e10⟩ := HNQ.out.cells
              obtain ⟨d0, d1, d2, d3, d4, d5, d6, d7, d8, d9, d10⟩ := HM9.out.cells
              obtain ⟨j0, j1, j2⟩ := HI9.out.cells
              obtain ⟨k0, k1, k2⟩ := HJ9.out.cells
              simp only at e0 e1 e2 e3 e4 e5 e6 e7 e8 e9 e10 d0 d1 d2 d3 d4 d5 d6 d7 d8 d9 d10 j0 j1 j2 k0 k1 k2
              have hS := HB.out.drew
              refine wp_region_growS (S := fun W => Below wq.heap.size wq W) [(0, true), (1, true), (3, true), (4, true), (5, true), (6, true), (2, false), (7, true), (8, true), (9, true), (10, false), (11, true), (12, true), (13, true), (14, false), (15, true), (16, true)] (by kernel_rfl) (by kernel_rfl) (by kernel_rfl) (by kernel_rfl) (by intro c a d v w h; cases d <;> exact h) hS ?_
              iterate 6
                (first
                  | (refine wpGrowS_float (v := ?_) (by simp only [List.getElem?_toArray, List.getElem?_cons_succ, List.getElem?_cons_zero]; rfl) (by rfl) ?_ ?_
                     rotate_left
                     · (intro W hW; have t0 := (hW.cell (p := ⟨Q, 0, none⟩) hQl).trans e0; have t1 := (hW.cell (p := ⟨Q, 1, none⟩) hQl).trans e1; have t2 := (hW.cell (p := ⟨Q, 2, none⟩) hQl).trans e2; have t3 := (hW.cell (p := ⟨Q, 3, none⟩) hQl).trans e3; have t4 := (hW.cell (p := ⟨Q, 4, none⟩) hQl).trans e4; have t5 := (hW.cell (p := ⟨Q, 5, none⟩) hQl).trans e5; have t6 := (hW.cell (p := ⟨Q, 6, none⟩) hQl).trans e6; have t7 := (hW.cell (p := ⟨Q, 7, none⟩) hQl).trans e7; have t8 := (hW.cell (p := ⟨Q, 8, none⟩) hQl).trans e8; have t9 := (hW.cell (p := ⟨Q, 9, none⟩) hQl).trans e9; have t10 := (hW.cell (p := ⟨Q, 10, none⟩) hQl).trans e10; have v0 := (hW.cell (p := ⟨M, 0, none⟩) hMl).trans d0; have v1 := (hW.cell (p := ⟨M, 1, none⟩) hMl).trans d1; have v2 := (hW.cell (p := ⟨M, 2, none⟩) hMl).trans d2; have v3 := (hW.cell (p := ⟨M, 3, none⟩) hMl).trans d3; have v4 := (hW.cell (p := ⟨M, 4, none⟩) hMl).trans d4; have v5 := (hW.cell (p := ⟨M, 5, none⟩) hMl).trans d5; have v6 := (hW.cell (p := ⟨M, 6, none⟩) hMl).trans d6; have v7 := (hW.cell (p := ⟨M, 7, none⟩) hMl).trans d7; have v8 := (hW.cell (p := ⟨M, 8, none⟩) hMl).trans d8; have v9 := (hW.cell (p := ⟨M, 9, none⟩) hMl).trans d9; have v10 := (hW.cell (p := ⟨M, 10, none⟩) hMl).trans d10; have u0 := (hW.cell (p := ⟨w.heap.size, 0, none⟩) hIl).trans j0; have u1 := (hW.cell (p := ⟨w.heap.size, 1, none⟩) hIl).trans j1; have u2 := (hW.cell (p := ⟨w.heap.size, 2, none⟩) hIl).trans j2; have o0 := (hW.cell (p := ⟨w.heap.size + 1, 0, none⟩) hJl).trans k0; have o1 := (hW.cell (p := ⟨w.heap.size + 1, 1, none⟩) hJl).trans k1; have o2 := (hW.cell (p := ⟨w.heap.size + 1, 2, none⟩) hJl).trans k2; have q1 := fun W => HE1.out W; have q3 := fun W => HE3.out W; (try simp only at *); go_simp; try with_reducible rfl)
                     simp only [Act.put, List.setIfInBounds_toArray, List.set_cons_zero, List.set_cons_succ])
                  | (refine wpGrowS_skip (by simp only [List.getElem?_toArray, List.getElem?_cons_succ, List.getElem?_cons_zero]; rfl) (by rfl) ?_
                     simp only [Act.put, List.setIfInBounds_toArray, List.set_cons_zero, List.set_cons_succ]))
              refine wpGrowS_call (by simp only [List.getElem?_toArray, List.getElem?_cons_succ, List.getElem?_cons_zero]; rfl) (by rfl) fun K hK => ?_
              go_simp
              go_fit (HBN2.out _ hS)
              rintro e wn ⟨rfl, hbn⟩
              have hSp := hS
              have hS : Below wq.heap.size wq wn := beln hS hbn
              go_simp
              refine hK _ _ hS ?_
              clear hK K
              try simp only [Act.put, List.setIfInBounds_toArray, List.set_cons_zero, List.set_cons_succ]
              iterate 3
                (first
                  | (refine wpGrowS_float (v := ?_) (by simp only [List.getElem?_toArray, List.getElem?_cons_succ, List.getElem?_cons_zero]; rfl) (by rfl) ?_ ?_
                     rotate_left
                     · (intro W hW; have t0 := (hW.cell (p := ⟨Q, 0, none⟩) hQl).trans e0; have t1 := (hW.cell (p := ⟨Q, 1, none⟩) hQl).trans e1; have t2 := (hW.cell (p := ⟨Q, 2, none⟩) hQl).trans e2; have t3 := (hW.cell (p := ⟨Q, 3, none⟩) hQl).trans e3; have t4 := (hW.cell (p := ⟨Q, 4, none⟩) hQl).trans e4; have t5 := (hW.cell (p := ⟨Q, 5, none⟩) hQl).trans e5; have t6 := (hW.cell (p := ⟨Q, 6, none⟩) hQl).trans e6; have t7 := (hW.cell (p := ⟨Q, 7, none⟩) hQl).trans e7; have t8 := (hW.cell (p := ⟨Q, 8, none⟩) hQl).trans e8; have t9 := (hW.cell (p := ⟨Q, 9, none⟩) hQl).trans e9; have t10 := (hW.cell (p := ⟨Q, 10, none⟩) hQl).trans e10; have v0 := (hW.cell (p := ⟨M, 0, none⟩) hMl).trans d0; have v1 := (hW.cell (p := ⟨M, 1, none⟩) hMl).trans d1; have v2 := (hW.cell (p := ⟨M, 2, none⟩) hMl).trans d2; have v3 := (hW.cell (p := ⟨M, 3, none⟩) hMl).trans d3; have v4 := (hW.cell (p := ⟨M, 4, none⟩) hMl).trans d4; have v5 := (hW.cell (p := ⟨M, 5, none⟩) hMl).trans d5; have v6 := (hW.cell (p := ⟨M, 6, none⟩) hMl).trans d6; have v7 := (hW.cell (p := ⟨M, 7, none⟩) hMl).trans d7; have v8 := (hW.cell (p := ⟨M, 8, none⟩) hMl).trans d8; have v9 := (hW.cell (p := ⟨M, 9, none⟩) hMl).trans d9; have v10 := (hW.cell (p := ⟨M, 10, none⟩) hMl).trans d10; have u0 := (hW.cell (p := ⟨w.heap.size, 0, none⟩) hIl).trans j0; have u1 := (hW.cell (p := ⟨w.heap.size, 1, none⟩) hIl).trans j1; have u2 := (hW.cell (p := ⟨w.heap.size, 2, none⟩) hIl).trans j2; have o0 := (hW.cell (p := ⟨w.heap.size + 1, 0, none⟩) hJl).trans k0; have o1 := (hW.cell (p := ⟨w.heap.size + 1, 1, none⟩) hJl).trans k1; have o2 := (hW.cell (p := ⟨w.heap.size + 1, 2, none⟩) hJl).trans k2; have q1 := fun W => HE1.out W; have q3 := fun W => HE3.out W; (try simp only at *); go_simp; try with_reducible rfl)
                     simp only [Act.put, List.setIfInBounds_toArray, List.set_cons_zero, List.set_cons_succ])
                  | (refine wpGrowS_skip (by simp only [List.getElem?_toArray, List.getElem?_cons_succ, List.getElem?_cons_zero]; rfl) (by rfl) ?_
                     simp only [Act.put, List.setIfInBounds_toArray, List.set_cons_zero, List.set_cons_succ]))
              refine wpGrowS_pass hS (by simp only [List.getElem?_toArray, List.getElem?_cons_succ, List.getElem?_cons_zero]; rfl) (by rfl) ?_
              try simp only [Act.put, List.setIfInBounds_toArray, List.set_cons_zero, List.set_cons_succ]
              iterate 3
                (first
                  | (refine wpGrowS_float (v := ?_) (by simp only [List.getElem?_toArray, List.getElem?_cons_succ, List.getElem?_cons_zero]; rfl) (by rfl) ?_ ?_
                     rotate_left
                     · (intro W hW; have t0 := (hW.cell (p := ⟨Q, 0, none⟩) hQl).trans e0; have t1 := (hW.cell (p := ⟨Q, 1, none⟩) hQl).trans e1; have t2 := (hW.cell (p := ⟨Q, 2, none⟩) hQl).trans e2; have t3 := (hW.cell (p := ⟨Q, 3, none⟩) hQl).trans e3; have t4 := (hW.cell (p := ⟨Q, 4, none⟩) hQl).trans e4; have t5 := (hW.cell (p := ⟨Q, 5, none⟩) hQl).trans e5; have t6 := (hW.cell (p := ⟨Q, 6, none⟩) hQl).trans e6; have t7 := (hW.cell (p := ⟨Q, 7, none⟩) hQl).trans e7; have t8 := (hW.cell (p := ⟨Q, 8, none⟩) hQl).trans e8; have t9 := (hW.cell (p := ⟨Q, 9, none⟩) hQl).trans e9; have t10 := (hW.cell (p := ⟨Q, 10, none⟩) hQl).trans e10; have v0 := (hW.cell (p := ⟨M, 0, none⟩) hMl).trans d0; have v1 := (hW.cell (p := ⟨M, 1, none⟩) hMl).trans d1; have v2 := (hW.cell (p := ⟨M, 2, none⟩) hMl).trans d2; have v3 := (hW.cell (p := ⟨M, 3, none⟩) hMl).trans d3; have v4 := (hW.cell (p := ⟨M, 4, none⟩) hMl).trans d4; have v5 := (hW.cell (p := ⟨M, 5, none⟩) hMl).trans d5; have v6 := (hW.cell (p := ⟨M, 6, none⟩) hMl).trans d6; have v7 := (hW.cell (p := ⟨M, 7, none⟩) hMl).trans d7; have v8 := (hW.cell (p := ⟨M, 8, none⟩) hMl).trans d8; have v9 := (hW.cell (p := ⟨M, 9, none⟩) hMl).trans d9; have v10 := (hW.cell (p := ⟨M, 10, none⟩) hMl).trans d10; have u0 := (hW.cell (p := ⟨w.heap.size, 0, none⟩) hIl).trans j0; have u1 := (hW.cell (p := ⟨w.heap.size, 1, none⟩) hIl).trans j1; have u2 := (hW.cell (p := ⟨w.heap.size, 2, none⟩) hIl).trans j2; have o0 := (hW.cell (p := ⟨w.heap.size + 1, 0, none⟩) hJl).trans k0; have o1 := (hW.cell (p := ⟨w.heap.size + 1, 1, none⟩) hJl).trans k1; have o2 := (hW.cell (p := ⟨w.heap.size + 1, 2, none⟩) hJl).trans k2; have q1 := fun W => HE1.out W; have q3 := fun W => HE3.out W; (try simp only at *); go_simp; try with_reducible rfl)
                     simp only [Act.put, List.setIfInBounds_toArray, List.set_cons_zero, List.set_cons_succ])
                  | (refine wpGrowS_skip (by simp only [List.getElem?_toArray, List.getElem?_cons_succ, List.getElem?_cons_zero]; rfl) (by rfl) ?_
                     simp only [Act.put, List.setIfInBounds_toArray, List.set_cons_zero, List.set_cons_succ]))
              refine wpGrowS_call (by simp only [List.getElem?_toArray, List.getElem?_cons_succ, List.getElem?_cons_zero]; rfl) (by rfl) fun K hK => ?_
              go_simp
              go_fit (HAW.out _)
              rintro e wn ⟨rfl, hbn⟩
              have hSp := hS
              have hS : Below wq.heap.size wq wn := beln hS hbn
              go_simp
              refine hK _ _ hS ?_
              clear hK K
              try simp only [Act.put, List.setIfInBounds_toArray, List.set_cons_zero, List.set_cons_succ]
              iterate 2
                (first
                  | (refine wpGrowS_float (v := ?_) (by simp only [List.getElem?_toArray, List.getElem?_cons_succ, List.getElem?_cons_zero]; rfl) (by rfl) ?_ ?_
                     rotate_left
                     · (intro W hW; have t0 := (hW.cell (p := ⟨Q, 0, none⟩) hQl).trans e0; have t1 := (hW.cell (p := ⟨Q, 1, none⟩) hQl).trans e1; have t2 := (hW.cell (p := ⟨Q, 2, none⟩) hQl).trans e2; have t3 := (hW.cell (p := ⟨Q, 3, none⟩) hQl).trans e3; have t4 := (hW.cell (p := ⟨Q, 4, none⟩) hQl).trans e4; have t5 := (hW.cell (p := ⟨Q, 5, none⟩) hQl).trans e5; have t6 := (hW.cell (p := ⟨Q, 6, none⟩) hQl).trans e6; have t7 := (hW.cell (p := ⟨Q, 7, none⟩) hQl).trans e7; have t8 := (hW.cell (p := ⟨Q, 8, none⟩) hQl).trans e8; have t9 := (hW.cell (p := ⟨Q, 9, none⟩) hQl).trans e9; have t10 := (hW.cell (p := ⟨Q, 10, none⟩) hQl).trans e10; have v0 := (hW.cell (p := ⟨M, 0, none⟩) hMl).trans d0; have v1 := (hW.cell (p := ⟨M, 1, none⟩) hMl).trans d1; have v2 := (hW.cell (p := ⟨M, 2, none⟩) hMl).trans d2; have v3 := (hW.cell (p := ⟨M, 3, none⟩) hMl).trans d3; have v4 := (hW.cell (p := ⟨M, 4, none⟩) hMl).trans d4; have v5 := (hW.cell (p := ⟨M, 5, none⟩) hMl).trans d5; have v6 := (hW.cell (p := ⟨M, 6, none⟩) hMl).trans d6; have v7 := (hW.cell (p := ⟨M, 7, none⟩) hMl).trans d7; have v8 := (hW.cell (p := ⟨M, 8, none⟩) hMl).trans d8; have v9 := (hW.cell (p := ⟨M, 9, none⟩) hMl).trans d9; have v10 := (hW.cell (p := ⟨M, 10, none⟩) hMl).trans d10; have u0 := (hW.cell (p := ⟨w.heap.size, 0, none⟩) hIl).trans j0; have u1 := (hW.cell (p := ⟨w.heap.size, 1, none⟩) hIl).trans j1; have u2 := (hW.cell (p := ⟨w.heap.size, 2, none⟩) hIl).trans j2; have o0 := (hW.cell (p := ⟨w.heap.size + 1, 0, none⟩) hJl).trans k0; have o1 := (hW.cell (p := ⟨w.heap.size + 1, 1, none⟩) hJl).trans k1; have o2 := (hW.cell (p := ⟨w.heap.size + 1, 2, none⟩) hJl).trans k2; have q1 := fun W => HE1.out W; have q3 := fun W => HE3.out W; (try simp only at *); go_simp; try with_reducible rfl)
                     simp only [Act.put, List.setIfInBounds_toArray, List.set_cons_zero, List.set_cons_succ])
                  | (refine wpGrowS_skip (by simp only [List.getElem?_toArray, List.getElem?_cons_succ, List.getElem?_cons_zero]; rfl) (by rfl) ?_
                     simp only [Act.put, List.setIfInBounds_toArray, List.set_cons_zero, List.set_cons_succ]))
              refine wpGrowS_nil ?_
              have HF := Lib.hid hS
              clear hS
              go_wp2
              go_ret
              exact ⟨rfl, beln HBX.out HF.out⟩
  · refine wpOp_call (by simp only [List.getElem?_toArray, List.getElem?_cons_succ, List.getElem?_cons_zero]; rfl) (by rfl) fun K hK => ?_
    go_simp
    have hbl : Below w9.heap.size w9 (w9.alloc (.cells #[.int .i64 0, .int .i64 0, .int .i64 0, .slice none 0 0, .int .i64 0, .int .i64 0, .int .i64 0, .int .i64 0, .int .i64 0, .int .i64 0, .bool false] 30)).drew := (belt (Below.refl _ w9) _).drew
    refine hK _ _ hbl ?_
    clear hK K
    try simp only [Act.put, List.setIfInBounds_toArray, List.set_cons_zero, List.set_cons_succ]
    refine wpGT_call (by simp only [List.getElem?_toArray, List.getElem?_cons_succ, List.getElem?_cons_zero]; rfl) (by rfl) fun K hK => ?_
    go_simp
    go_fit (HPG.out _)
    rintro e wp ⟨rfl, hbp⟩
    have hS1 : Below w9.heap.size w9 wp := beln hbl hbp
    go_simp
    refine hK _ _ hS1 ?_
    clear hK K
    try simp only [Act.put, List.setIfInBounds_toArray, List.set_cons_zero, List.set_cons_succ]
    refine wpGT_call (by simp only [List.getElem?_toArray, List.getElem?_cons_succ, List.getElem?_cons_zero]; rfl) (by rfl) fun K hK => ?_
    go_simp
    go_fit (HCH.out _ hS1)
    rintro e wn ⟨A9, c9, rfl, hc9, ho9, hbn⟩
    have hS2 : Below w9.heap.size w9 wn := beln hS1 hbn
    have hpl : w9.heap.size < wp.heap.size := by have := hbp.size; simp at this; omega
    have HI0 := Lib.hid ((((NB.new w9 ⟨0, 0, 0⟩ none 0 0 ⟨0, 0, 0, 0, 0, 0, false⟩).next (Below.refl _ _).drew).next hbp).next hbn)
    go_simp
    refine hK _ _ hS2 ?_
    clear hK K
    try simp only [Act.put, List.setIfInBounds_toArray, List.set_cons_zero, List.set_cons_succ]
    iterate 3
      (first
        | (refine wpGT_float (v := ?_) (by simp only [List.getElem?_toArray, List.getElem?_cons_succ, List.getElem?_cons_zero]; rfl) (by rfl) ?_ ?_
           rotate_left
           · (intro W hW; skip; go_simp; try with_reducible rfl)
           simp only [Act.put, List.setIfInBounds_toArray, List.set_cons_zero, List.set_cons_succ])
        | (refine wpGT_skip (by simp only [List.getElem?_toArray, List.getElem?_cons_succ, List.getElem?_cons_zero]; rfl) (by rfl) ?_
           simp only [Act.put, List.setIfInBounds_toArray, List.set_cons_zero, List.set_cons_succ]))
    obtain ⟨z0, z1, z2, z3, z4, z5, z6, z7, z8, z9, z10⟩ := HI0.out.cells
    have zf := HI0.out.frz
    have zl := HI0.out.lt
    simp only at z0 z1 z2 z3 z4 z5 z6 z7 z8 z9 z10
    refine wpGT_call (by simp only [List.getElem?_toArray, List.getElem?_cons_succ, List.getElem?_cons_zero]; rfl) (by rfl) fun K hK => ?_
    go_simp
    have HB9 : Hid (Below w9.heap.size w9 (((((((((((wn.setCell ⟨w9.heap.size, 0, none⟩ (.int .i64 y0)).setCell ⟨w9.heap.size, 1, none⟩ (.int .i64 y1)).setCell ⟨w9.heap.size, 2, none⟩ (.int .i64 y2)).setCell ⟨w9.heap.size, 3, none⟩ (.slice A9 ys.length c9)).setCell ⟨w9.heap.size, 4, none⟩ (.int .i64 b0)).setCell ⟨w9.heap.size, 5, none⟩ (.int .i64 b1)).setCell ⟨w9.heap.size, 6, none⟩ (.int .i64 b2)).setCell ⟨w9.heap.size, 7, none⟩ (.int .i64 b3)).setCell ⟨w9.heap.size, 8, none⟩ (.int .i64 b4)).setCell ⟨w9.heap.size, 9, none⟩ (.int .i64 b5)).setCell ⟨w9.heap.size, 10, none⟩ (.bool b6))) := Lib.hid (below11b (by omega) hS2 _ _ _ _ _ _ _ _ _ _ _)
    have HN9 : Hid (NB (((((((((((wn.setCell ⟨w9.heap.size, 0, none⟩ (.int .i64 y0)).setCell ⟨w9.heap.size, 1, none⟩ (.int .i64 y1)).setCell ⟨w9.heap.size, 2, none⟩ (.int .i64 y2)).setCell ⟨w9.heap.size, 3, none⟩ (.slice A9 ys.length c9)).setCell ⟨w9.heap.size, 4, none⟩ (.int .i64 b0)).setCell ⟨w9.heap.size, 5, none⟩ (.int .i64 b1)).setCell ⟨w9.heap.size, 6, none⟩ (.int .i64 b2)).setCell ⟨w9.heap.size, 7, none⟩ (.int .i64 b3)).setCell ⟨w9.heap.size, 8, none⟩ (.int .i64 b4)).setCell ⟨w9.heap.size, 9, none⟩ (.int .i64 b5)).setCell ⟨w9.heap.size, 10, none⟩ (.bool b6)) w9.heap.size ⟨y0, y1, y2⟩ A9 ys.length c9 ⟨b0, b1, b2, b3, b4, b5, b6⟩) := Lib.hid (HI0.out.store2 ⟨y0, y1, y2⟩ A9 ys.length c9 ⟨b0, b1, b2, b3, b4, b5, b6⟩)
    have HBX := Lib.hid (beln HB.out HB9.out)
    have HM9 := Lib.hid (HNM.out.next HB9.out)
    have HI9 := Lib.hid (HI2.out.next HB9.out)
    have HJ9 := Lib.hid (HJ2.out.next HB9.out)
    have HRS := Lib.hid (HRX.out.next HB9.out)
    have HO9 := Lib.hid (OwnG.low (b' := M + 1) (own11 (g0 := w9.heap.size) (by omega) ho9 (.int .i64 y0) (.int .i64 y1) (.int .i64 y2) (.slice A9 ys.length c9) (.int .i64 b0) (.int .i64 b1) (.int .i64 b2) (.int .i64 b3) (.int .i64 b4) (.int .i64 b5) (.bool b6)) (by omega))
    refine hK _ _ HB9.out ?_
    clear hK K
    try simp only [Act.put, List.setIfInBounds_toArray, List.set_cons_zero, List.set_cons_succ]
    iterate 1
      (first
        | (refine wpGT_float (v := ?_) (by simp only [List.getElem?_toArray, List.getElem?_cons_succ, List.getElem?_cons_zero]; rfl) (by rfl) ?_ ?_
           rotate_left
           · (intro W hW; skip; go_simp; try with_reducible rfl)
           simp only [Act.put, List.setIfInBounds_toArray, List.set_cons_zero, List.set_cons_succ])
        | (refine wpGT_skip (by simp only [List.getElem?_toArray, List.getElem?_cons_succ, List.getElem?_cons_zero]; rfl) (by rfl) ?_
           simp only [Act.put, List.setIfInBounds_toArray, List.set_cons_zero, List.set_cons_succ]))
    clear hS hS1 hS2 hbl hbp hbn
    clear HB9 z0 z1 z2 z3 z4 z5 z6 z7 z8 z9 z10 zf zl HI0 ho9
    generalize (((((((((((wn.setCell ⟨w9.heap.size, 0, none⟩ (.int .i64 y0)).setCell ⟨w9.heap.size, 1, none⟩ (.int .i64 y1)).setCell ⟨w9.heap.size, 2, none⟩ (.int .i64 y2)).setCell ⟨w9.heap.size, 3, none⟩ (.slice A9 ys.length c9)).setCell ⟨w9.heap.size, 4, none⟩ (.int .i64 b0)).setCell ⟨w9.heap.size, 5, none⟩ (.int .i64 b1)).setCell ⟨w9.heap.size, 6, none⟩ (.int .i64 b2)).setCell ⟨w9.heap.size, 7, none⟩ (.int .i64 b3)).setCell ⟨w9.heap.size, 8, none⟩ (.int .i64 b4)).setCell ⟨w9.heap.size, 9, none⟩ (.int .i64 b5)).setCell ⟨w9.heap.size, 10, none⟩ (.bool b6)) = wq at *
    generalize hQQ : w9.heap.size = Q at *
    clear hQQ
    refine wpGT_nil ?_
    have HNQ := Lib.hid (show NB wq Q ⟨y0, y1, y2⟩ A9 ys.length c9 ⟨b0, b1, b2, b3, b4, b5, b6⟩ from HN9.out)
    clear HN9 HNM HB d0 d1 d2 d3 d4 d5 d6 d7 d8 d9 d10 j0 j1 j2 hMl hIl HCH HI2 HJ2 HRX
    have HRY := Lib.hid (OwnG.rowAt GId.len HO9.out).2
    obtain ⟨e0, e1, e2, e3, e4, e5, e6, e7, e8, e9, e10⟩ := HNQ.out.cells
    simp only at e0 e1 e2 e3 e4 e5 e6 e7 e8 e9 e10
    by_cases hq : q = 0
    rotate_left
    · have hz := HCZ.out hq
      have fq : (q != 0) = true := by simpa using hq
      simp only [zN, GN.mk.injEq, GId.mk.injEq] at hz
      obtain ⟨⟨rfl, rfl, rfl⟩, rfl, _⟩ := hz
      have heq : ∀ W, (Op.equalIn 10000 24 (.agg #[.int .i64 0, .int .i64 0, .int .i64 0]) (.agg #[.int .i64 0, .int .i64 0, .int .i64 0])).run Try.prog W = .ok true W := fun W => id_eql ⟨0, 0, 0⟩ ⟨0, 0, 0⟩ W
      clear hq HCL HCZ
      go_wp2_with fail
      go_fit (HAW.out _)
      rintro e w7 ⟨rfl, hb7⟩
      have HB7 := Lib.hid (beln HBX.out hb7)
      clear hb7
      go_wp2
      go_ret
      exact ⟨rfl, HB7.out⟩
    · subst hq
      obtain ⟨hv, hid, hcap, hh, hln⟩ := HCL.out rfl
      simp only [GId.mk.injEq] at hid
      simp only [GC.mk.injEq] at hcap
      obtain ⟨rfl, rfl, rfl⟩ := hid
      obtain ⟨rfl, rfl, rfl, rfl, rfl, rfl, rfl⟩ := hcap
      have hys8 := (vN_facts hv).2.2.1
      simp only at hys8 hh hln
      have hQl := HNQ.out.lt
      have hMl := HM9.out.lt
      obtain ⟨d0, d1, d2, d3, d4, d5, d6, d7, d8, d9, d10⟩ := HM9.out.cells
      obtain ⟨j0, j1, j2⟩ := HI9.out.cells
      obtain ⟨k0, k1, k2⟩ := HJ9.out.cells
      have hIl := HI9.out.lt
      have hJl := HJ9.out.lt
      simp only at d0 d1 d2 d3 d4 d5 d6 d7 d8 d9 d10 j0 j1 j2 k0 k1 k2
      have HPV := Lib.hid fun W (hW : Below wq.heap.size wq W) => pVN_any ⟨⟨y0, y1, y2⟩, ys, ⟨2, 4096, 12, 3, 0, 0, false⟩⟩ A9 c9 W (HRY.out.next hW) (by simp only; omega) hc9
      have HBN := Lib.hid fun (i0 i1 i2 : Int) W (hW : Below wq.heap.size wq W) => pBel_any ⟨⟨y0, y1, y2⟩, ys, ⟨2, 4096, 12, 3, 0, 0, false⟩⟩ A9 c9 ⟨i0, i1, i2⟩ W (HRY.out.next hW) (by simp only; omega) hc9
      have HBS := Lib.hid fun (i0 i1 i2 : Int) W (hW : Below wq.heap.size wq W) => pBel_any ⟨⟨s0, s1, s2⟩, ss, ⟨a0, a1, a2, a3, a4, a5, a6⟩⟩ A5 c5 ⟨i0, i1, i2⟩ W (HRS.out.next hW) (by simp only; omega) hc5
      rw [hv] at HPV
      simp only [GN.val, GId.val] at HPV HBN HBS
      have HHH := Lib.hid hh
      have HT1 : Hid (hasI ys ⟨s0, s1, s2⟩ = true) := Lib.hid (by rw [hh, (eqI_iff _ _).2 rfl]; rfl)
      have HE1 : Hid (∀ W, (Op.equalIn 10000 24 (.agg #[.int .i64 y0, .int .i64 y1, .int .i64 y2]) (.agg #[.int .i64 y0, .int .i64 y1, .int .i64 y2])).run Try.prog W = .ok true W) := Lib.hid fun W => by
        have := id_eql ⟨y0, y1, y2⟩ ⟨y0, y1, y2⟩ W
        rw [(eqI_iff _ _).2 rfl] at this
        exact this
      have HE2 : Hid (∀ W, (Op.equalIn 10000 28 (.agg #[.int .i64 2, .int .i64 4096, .int .i64 12, .int .i64 3, .int .i64 0, .int .i64 0, .bool false]) (.agg #[.int .i64 2, .int .i64 4096, .int .i64 12, .int .i64 3, .int .i64 0, .int .i64 0, .bool false])).run Try.prog W = .ok true W) := Lib.hid fun W => cap_eql pgC pgC W
      have HE3 : Hid (∀ W, (Op.equalIn 10000 24 (.agg #[.int .i64 r0, .int .i64 r1, .int .i64 r2]) (.agg #[.int .i64 s0, .int .i64 s1, .int .i64 s2])).run Try.prog W = .ok (eqI ⟨r0, r1, r2⟩ ⟨s0, s1, s2⟩) W) := Lib.hid fun W => id_eql ⟨r0, r1, r2⟩ ⟨s0, s1, s2⟩ W
      clear hv hh hln HCL HCZ HV
      go_upto_region 7 with fail
      have hS := (Below.refl wq.heap.size wq).drew
      refine wp_region_growS (S := fun W => Below wq.heap.size wq W) [(0, true), (1, false), (2, true), (3, true), (4, true), (5, true), (6, true), (7, false), (8, true), (9, true), (10, true), (11, true), (12, true), (13, true), (14, true), (15, true), (16, true), (17, true), (18, true), (19, false), (20, true), (21, true)] (by kernel_rfl) (by kernel_rfl) (by kernel_rfl) (by kernel_rfl) (by intro c a d v w h; cases d <;> exact h) hS ?_
      iterate 1
        (first
          | (refine wpGrowS_float (v := ?_) (by simp only [List.getElem?_toArray, List.getElem?_cons_zero]; rfl) (by rfl) ?_ ?_
             rotate_left
             · (intro W hW; have t0 := (hW.cell (p := ⟨Q, 0, none⟩) hQl).trans e0; have t1 := (hW.cell (p := ⟨Q, 1, none⟩) hQl).trans e1; have t2 := (hW.cell (p := ⟨Q, 2, none⟩) hQl).trans e2; have t3 := (hW.cell (p := ⟨Q, 3, none⟩) hQl).trans e3; have t4 := (hW.cell (p := ⟨Q, 4, none⟩) hQl).trans e4; have t5 := (hW.cell (p := ⟨Q, 5, none⟩) hQl).trans e5; have t6 := (hW.cell (p := ⟨Q, 6, none⟩) hQl).trans e6; have t7 := (hW.cell (p := ⟨Q, 7, none⟩) hQl).trans e7; have t8 := (hW.cell (p := ⟨Q, 8, none⟩) hQl).trans e8; have t9 := (hW.cell (p := ⟨Q, 9, none⟩) hQl).trans e9; have t10 := (hW.cell (p := ⟨Q, 10, none⟩) hQl).trans e10; have v0 := (hW.cell (p := ⟨M, 0, none⟩) hMl).trans d0; have v1 := (hW.cell (p := ⟨M, 1, none⟩) hMl).trans d1; have v2 := (hW.cell (p := ⟨M, 2, none⟩) hMl).trans d2; have v3 := (hW.cell (p := ⟨M, 3, none⟩) hMl).trans d3; have v4 := (hW.cell (p := ⟨M, 4, none⟩) hMl).trans d4; have v5 := (hW.cell (p := ⟨M, 5, none⟩) hMl).trans d5; have v6 := (hW.cell (p := ⟨M, 6, none⟩) hMl).trans d6; have v7 := (hW.cell (p := ⟨M, 7, none⟩) hMl).trans d7; have v8 := (hW.cell (p := ⟨M, 8, none⟩) hMl).trans d8; have v9 := (hW.cell (p := ⟨M, 9, none⟩) hMl).trans d9; have v10 := (hW.cell (p := ⟨M, 10, none⟩) hMl).trans d10; have u0 := (hW.cell (p := ⟨w.heap.size, 0, none⟩) hIl).trans j0; have u1 := (hW.cell (p := ⟨w.heap.size, 1, none⟩) hIl).trans j1; have u2 := (hW.cell (p := ⟨w.heap.size, 2, none⟩) hIl).trans j2; have o0 := (hW.cell (p := ⟨w.heap.size + 1, 0, none⟩) hJl).trans k0; have o1 := (hW.cell (p := ⟨w.heap.size + 1, 1, none⟩) hJl).trans k1; have o2 := (hW.cell (p := ⟨w.heap.size + 1, 2, none⟩) hJl).trans k2; have q1 := fun W => HE1.out W; have q2 := fun W => HE2.out W; have q3 := fun W => HE3.out W; (try simp only at *); go_simp; try with_reducible rfl)
             simp only [Act.put, List.setIfInBounds_toArray, List.set_cons_zero, List.set_cons_succ])
          | (refine wpGrowS_skip (by simp only [List.getElem?_toArray, List.getElem?_cons_zero]; rfl) (by rfl) ?_
             simp only [Act.put, List.setIfInBounds_toArray, List.set_cons_zero, List.set_cons_succ]))
      refine wpGrowS_call (by simp only [List.getElem?_toArray, List.getElem?_cons_succ, List.getElem?_cons_zero]; rfl) (by rfl) fun K hK => ?_
      go_simp
      go_fit (HPV.out _ hS)
      rintro e wn ⟨rfl, hbn⟩
      have hSp := hS
      have hS : Below wq.heap.size wq wn := beln hS hbn
      go_simp
      refine hK _ _ hS ?_
      clear hK K
      try simp only [Act.put, List.setIfInBounds_toArray, List.set_cons_zero, List.set_cons_succ]
      iterate 5
        (first
          | (refine wpGrowS_float (v := ?_) (by simp only [List.getElem?_toArray, List.getElem?_cons_succ, List.getElem?_cons_zero]; rfl) (by rfl) ?_ ?_
             rotate_left
             · (intro W hW; have t0 := (hW.cell (p := ⟨Q, 0, none⟩) hQl).trans e0; have t1 := (hW.cell (p := ⟨Q, 1, none⟩) hQl).trans e1; have t2 := (hW.cell (p := ⟨Q, 2, none⟩) hQl).trans e2; have t3 := (hW.cell (p := ⟨Q, 3, none⟩) hQl).trans e3; have t4 := (hW.cell (p := ⟨Q, 4, none⟩) hQl).trans e4; have t5 := (hW.cell (p := ⟨Q, 5, none⟩) hQl).trans e5; have t6 := (hW.cell (p := ⟨Q, 6, none⟩) hQl).trans e6; have t7 := (hW.cell (p := ⟨Q, 7, none⟩) hQl).trans e7; have t8 := (hW.cell (p := ⟨Q, 8, none⟩) hQl).trans e8; have t9 := (hW.cell (p := ⟨Q, 9, none⟩) hQl).trans e9; have t10 := (hW.cell (p := ⟨Q, 10, none⟩) hQl).trans e10; have v0 := (hW.cell (p := ⟨M, 0, none⟩) hMl).trans d0; have v1 := (hW.cell (p := ⟨M, 1, none⟩) hMl).trans d1; have v2 := (hW.cell (p := ⟨M, 2, none⟩) hMl).trans d2; have v3 := (hW.cell (p := ⟨M, 3, none⟩) hMl).trans d3; have v4 := (hW.cell (p := ⟨M, 4, none⟩) hMl).trans d4; have v5 := (hW.cell (p := ⟨M, 5, none⟩) hMl).trans d5; have v6 := (hW.cell (p := ⟨M, 6, none⟩) hMl).trans d6; have v7 := (hW.cell (p := ⟨M, 7, none⟩) hMl).trans d7; have v8 := (hW.cell (p := ⟨M, 8, none⟩) hMl).trans d8; have v9 := (hW.cell (p := ⟨M, 9, none⟩) hMl).trans d9; have v10 := (hW.cell (p := ⟨M, 10, none⟩) hMl).trans d10; have u0 := (hW.cell (p := ⟨w.heap.size, 0, none⟩) hIl).trans j0; have u1 := (hW.cell (p := ⟨w.heap.size, 1, none⟩) hIl).trans j1; have u2 := (hW.cell (p := ⟨w.heap.size, 2, none⟩) hIl).trans j2; have o0 := (hW.cell (p := ⟨w.heap.size + 1, 0, none⟩) hJl).trans k0; have o1 := (hW.cell (p := ⟨w.heap.size + 1, 1, none⟩) hJl).trans k1; have o2 := (hW.cell (p := ⟨w.heap.size + 1, 2, none⟩) hJl).trans k2; have q1 := fun W => HE1.out W; have q2 := fun W => HE2.out W; have q3 := fun W => HE3.out W; (try simp only at *); go_simp; try with_reducible rfl)
             simp only [Act.put, List.setIfInBounds_toArray, List.set_cons_zero, List.set_cons_succ])
          | (refine wpGrowS_skip (by simp only [List.getElem?_toArray, List.getElem?_cons_succ, List.getElem?_cons_zero]; rfl) (by rfl) ?_
             simp only [Act.put, List.setIfInBounds_toArray, List.set_cons_zero, List.set_cons_succ]))
      refine wpGrowS_call (by simp only [List.getElem?_toArray, List.getElem?_cons_succ, List.getElem?_cons_zero]; rfl) (by rfl) fun K hK => ?_
      go_simp
      go_fit (HBN.out _ _ _ _ hS)
      rintro e wn ⟨rfl, hbn⟩
      have hSp := hS
      have hS : Below wq.heap.size wq wn := beln hS hbn
      rw [HT1.out]
      go_simp
      refine hK _ _ hS ?_
      clear hK K
      try simp only [Act.put, List.setIfInBounds_toArray, List.set_cons_zero, List.set_cons_succ]
      iterate 11
        (first
          | (refine wpGrowS_float (v := ?_) (by simp only [List.getElem?_toArray, List.getElem?_cons_succ, List.getElem?_cons_zero]; rfl) (by rfl) ?_ ?_
             rotate_left
             · (intro W hW; have t0 := (hW.cell (p := ⟨Q, 0, none⟩) hQl).trans e0; have t1 := (hW.cell (p := ⟨Q, 1, none⟩) hQl).trans e1; have t2 := (hW.cell (p := ⟨Q, 2, none⟩) hQl).trans e2; have t3 := (hW.cell (p := ⟨Q, 3, none⟩) hQl).trans e3; have t4 := (hW.cell (p := ⟨Q, 4, none⟩) hQl).trans e4; have t5 := (hW.cell (p := ⟨Q, 5, none⟩) hQl).trans e5; have t6 := (hW.cell (p := ⟨Q, 6, none⟩) hQl).trans e6; have t7 := (hW.cell (p := ⟨Q, 7, none⟩) hQl).trans e7; have t8 := (hW.cell (p := ⟨Q, 8, none⟩) hQl).trans e8; have t9 := (hW.cell (p := ⟨Q, 9, none⟩) hQl).trans e9; have t10 := (hW.cell (p := ⟨Q, 10, none⟩) hQl).trans e10; have v0 := (hW.cell (p := ⟨M, 0, none⟩) hMl).trans d0; have v1 := (hW.cell (p := ⟨M, 1, none⟩) hMl).trans d1; have v2 := (hW.cell (p := ⟨M, 2, none⟩) hMl).trans d2; have v3 := (hW.cell (p := ⟨M, 3, none⟩) hMl).trans d3; have v4 := (hW.cell (p := ⟨M, 4, none⟩) hMl).trans d4; have v5 := (hW.cell (p := ⟨M, 5, none⟩) hMl).trans d5; have v6 := (hW.cell (p := ⟨M, 6, none⟩) hMl).trans d6; have v7 := (hW.cell (p := ⟨M, 7, none⟩) hMl).trans d7; have v8 := (hW.cell (p := ⟨M, 8, none⟩) hMl).trans d8; have v9 := (hW.cell (p := ⟨M, 9, none⟩) hMl).trans d9; have v10 := (hW.cell (p := ⟨M, 10, none⟩) hMl).trans d10; have u0 := (hW.cell (p := ⟨w.heap.size, 0, none⟩) hIl).trans j0; have u1 := (hW.cell (p := ⟨w.heap.size, 1, none⟩) hIl).trans j1; have u2 := (hW.cell (p := ⟨w.heap.size, 2, none⟩) hIl).trans j2; have o0 := (hW.cell (p := ⟨w.heap.size + 1, 0, none⟩) hJl).trans k0; have o1 := (hW.cell (p := ⟨w.heap.size + 1, 1, none⟩) hJl).trans k1; have o2 := (hW.cell (p := ⟨w.heap.size + 1, 2, none⟩) hJl).trans k2; have q1 := fun W => HE1.out W; have q2 := fun W => HE2.out W; have q3 := fun W => HE3.out W; (try simp only at *); go_simp; try with_reducible rfl)
             simp only [Act.put, List.setIfInBounds_toArray, List.set_cons_zero, List.set_cons_succ])
          | (refine wpGrowS_skip (by simp only [List.getElem?_toArray, List.getElem?_cons_succ, List.getElem?_cons_zero]; rfl) (by rfl) ?_
             simp only [Act.put, List.setIfInBounds_toArray, List.set_cons_zero, List.set_cons_succ]))
      refine wpGrowS_call (by simp only [List.getElem?_toArray, List.getElem?_cons_succ, List.getElem?_cons_zero]; rfl) (by rfl) fun K hK => ?_
      go_simp
      go_fit (HPG.out _)
      rintro e wn ⟨rfl, hbn⟩
      have hSp := hS
      have hS : Below wq.heap.size wq wn := beln hS hbn
      go_simp
      refine hK _ _ hS ?_
      clear hK K
      try simp only [Act.put, List.setIfInBounds_toArray, List.set_cons_zero, List.set_cons_succ]
      iterate 2
        (first
          | (refine wpGrowS_float (v := ?_) (by simp only [List.getElem?_toArray, List.getElem?_cons_succ, List.getElem?_cons_zero]; rfl) (by rfl) ?_ ?_
             rotate_left
             · (intro W hW; have t0 := (hW.cell (p := ⟨Q, 0, none⟩) hQl).trans e0; have t1 := (hW.cell (p := ⟨Q, 1, none⟩) hQl).trans e1; have t2 := (hW.cell (p := ⟨Q, 2, none⟩) hQl).trans e2; have t3 := (hW.cell (p := ⟨Q, 3, none⟩) hQl).trans e3; have t4 := (hW.cell (p := ⟨Q, 4, none⟩) hQl).trans e4; have t5 := (hW.cell (p := ⟨Q, 5, none⟩) hQl).trans e5; have t6 := (hW.cell (p := ⟨Q, 6, none⟩) hQl).trans e6; have t7 := (hW.cell (p := ⟨Q, 7, none⟩) hQl).trans e7; have t8 := (hW.cell (p := ⟨Q, 8, none⟩) hQl).trans e8; have t9 := (hW.cell (p := ⟨Q, 9, none⟩) hQl).trans e9; have t10 := (hW.cell (p := ⟨Q, 10, none⟩) hQl).trans e10; have v0 := (hW.cell (p := ⟨M, 0, none⟩) hMl).trans d0; have v1 := (hW.cell (p := ⟨M, 1, none⟩) hMl).trans d1; have v2 := (hW.cell (p := ⟨M, 2, none⟩) hMl).trans d2; have v3 := (hW.cell (p := ⟨M, 3, none⟩) hMl).trans d3; have v4 := (hW.cell (p := ⟨M, 4, none⟩) hMl).trans d4; have v5 := (hW.cell (p := ⟨M, 5, none⟩) hMl).trans d5; have v6 := (hW.cell (p := ⟨M, 6, none⟩) hMl).trans d6; have v7 := (hW.cell (p := ⟨M, 7, none⟩) hMl).trans d7; have v8 := (hW.cell (p := ⟨M, 8, none⟩) hMl).trans d8; have v9 := (hW.cell (p := ⟨M, 9, none⟩) hMl).trans d9; have v10 := (hW.cell (p := ⟨M, 10, none⟩) hMl).trans d10; have u0 := (hW.cell (p := ⟨w.heap.size, 0, none⟩) hIl).trans j0; have u1 := (hW.cell (p := ⟨w.heap.size, 1, none⟩) hIl).trans j1; have u2 := (hW.cell (p := ⟨w.heap.size, 2, none⟩) hIl).trans j2; have o0 := (hW.cell (p := ⟨w.heap.size + 1, 0, none⟩) hJl).trans k0; have o1 := (hW.cell (p := ⟨w.heap.size + 1, 1, none⟩) hJl).trans k1; have o2 := (hW.cell (p := ⟨w.heap.size + 1, 2, none⟩) hJl).trans k2; have q1 := fun W => HE1.out W; have q2 := fun W => HE2.out W; have q3 := fun W => HE3.out W; (try simp only at *); go_simp; try with_reducible rfl)
             simp only [Act.put, List.setIfInBounds_toArray, List.set_cons_zero, List.set_cons_succ])
          | (refine wpGrowS_skip (by simp only [List.getElem?_toArray, List.getElem?_cons_succ, List.getElem?_cons_zero]; rfl) (by rfl) ?_
             simp only [Act.put, List.setIfInBounds_toArray, List.set_cons_zero, List.set_cons_succ]))
      refine wpGrowS_nil ?_
      have HBY := Lib.hid hS
      clear hS e0 e1 e2 e3 e4 e5 e6 e7 e8 e9 e10 d0 d1 d2 d3 d4 d5 d6 d7 d8 d9 d10 j0 j1 j2 k0 k1 k2 HPV HT1 HE2
      go_wp2
      go_loopw [16] (fun vi wr => ∃ k : Nat, vi = .int .i64 k ∧ k ≤ ss.length ∧ Hid (Below wq.heap.size wq wr)) (fun vi _ => ss.length - (intOf vi).toNat)
      case atStart => exact ⟨0, rfl, Nat.zero_le _, HBY⟩
      case round =>
        obtain ⟨k, rfl, hk, HB⟩ := hrel
        have HNR := Lib.hid (HNQ.out.next HB.out)
        have HMR := Lib.hid (HM9.out.next HB.out)
        have HIR := Lib.hid (HI9.out.next HB.out)
        have HJR := Lib.hid (HJ9.out.next HB.out)
        have hQr := HNR.out.lt
        have hMr := HMR.out.lt
        have hIr := HIR.out.lt
        have hJr := HJR.out.lt
        obtain ⟨f0, f1, f2, f3, f4, f5, f6, f7, f8, f9, f10⟩ := HNR.out.cells
        obtain ⟨g0, g1, g2, g3, g4, g5, g6, g7, g8, g9, g10⟩ := HMR.out.cells
        obtain ⟨j0, j1, j2⟩ := HIR.out.cells
        obtain ⟨k0, k1, k2⟩ := HJR.out.cells
        simp only at f0 f1 f2 f3 f4 f5 f6 f7 f8 f9 f10 g0 g1 g2 g3 g4 g5 g6 g7 g8 g9 g10 j0 j1 j2 k0 k1 k2
        rcases Nat.lt_or_ge k ss.length with hlt | hge
        · obtain ⟨b1, o1, rfl, hb1, x0, x1, x2⟩ := (HRS.out.next HB.out).gid hlt
          have HT2 : Hid (hasI ys ss[k] = true) := Lib.hid (by
            rw [HHH.out]
            have : hasI ss ss[k] = true := by unfold hasI; simp
            rw [this, Bool.or_true])
          generalize ss[k] = z at *
          obtain ⟨z0, z1, z2⟩ := z
          simp only at x0 x1 x2
          have HBM := Lib.hid fun W (hW : Below wr.heap.size wr W) => HBN.out z0 z1 z2 W (beln HB.out hW)
          clear j0 j1 j2 k0 k1 k2
          go_upto_region 12 with fail
          have hS := (Below.refl wr.heap.size wr).drew
          have hk0 : 0 ≤ (k : Int) := by omega
          have hk1 : (k : Int) < (ss.length : Int) := by omega
          have hk2 : (k : Int).toNat = k := by omega
          refine wp_region_growS (S := fun W => Below wr.heap.size wr W) [(0, true), (1, true), (2, true), (3, true), (4, true), (5, true), (6, false), (7, true)] (by kernel_rfl) (by kernel_rfl) (by kernel_rfl) (by kernel_rfl) (by intro c a d v w h; cases d <;> exact h) hS ?_
          iterate 6
            (first
              | (refine wpGrowS_float (v := ?_) (by simp only [List.getElem?_toArray, List.getElem?_cons_succ, List.getElem?_cons_zero]; rfl) (by rfl) ?_ ?_
                 rotate_left
                 · (intro W hW; have t0 := (hW.cell (p := ⟨Q, 0, none⟩) hQr).trans f0; have t1 := (hW.cell (p := ⟨Q, 1, none⟩) hQr).trans f1; have t2 := (hW.cell (p := ⟨Q, 2, none⟩) hQr).trans f2; have t3 := (hW.cell (p := ⟨Q, 3, none⟩) hQr).trans f3; have t4 := (hW.cell (p := ⟨Q, 4, none⟩) hQr).trans f4; have t5 := (hW.cell (p := ⟨Q, 5, none⟩) hQr).trans f5; have t6 := (hW.cell (p := ⟨Q, 6, none⟩) hQr).trans f6; have t7 := (hW.cell (p := ⟨Q, 7, none⟩) hQr).trans f7; have t8 := (hW.cell (p := ⟨Q, 8, none⟩) hQr).trans f8; have t9 := (hW.cell (p := ⟨Q, 9, none⟩) hQr).trans f9; have t10 := (hW.cell (p := ⟨Q, 10, none⟩) hQr).trans f10; have v0 := (hW.cell (p := ⟨M, 0, none⟩) hMr).trans g0; have v1 := (hW.cell (p := ⟨M, 1, none⟩) hMr).trans g1; have v2 := (hW.cell (p := ⟨M, 2, none⟩) hMr).trans g2; have v3 := (hW.cell (p := ⟨M, 3, none⟩) hMr).trans g3; have v4 := (hW.cell (p := ⟨M, 4, none⟩) hMr).trans g4; have v5 := (hW.cell (p := ⟨M, 5, none⟩) hMr).trans g5; have v6 := (hW.cell (p := ⟨M, 6, none⟩) hMr).trans g6; have v7 := (hW.cell (p := ⟨M, 7, none⟩) hMr).trans g7; have v8 := (hW.cell (p := ⟨M, 8, none⟩) hMr).trans g8; have v9 := (hW.cell (p := ⟨M, 9, none⟩) hMr).trans g9; have v10 := (hW.cell (p := ⟨M, 10, none⟩) hMr).trans g10; have x0' := (hW.cell (p := ⟨b1, o1 + k * 3, none⟩) hb1).trans x0; have x1' := (hW.cell (p := ⟨b1, o1 + k * 3 + 1, none⟩) hb1).trans x1; have x2' := (hW.cell (p := ⟨b1, o1 + k * 3 + 2, none⟩) hb1).trans x2; (try simp only at *); go_simp; try with_reducible rfl)
                 simp only [Act.put, List.setIfInBounds_toArray, List.set_cons_zero, List.set_cons_succ])
              | (refine wpGrowS_skip (by simp only [List.getElem?_toArray, List.getElem?_cons_succ, List.getElem?_cons_zero]; rfl) (by rfl) ?_
                 simp only [Act.put, List.setIfInBounds_toArray, List.set_cons_zero, List.set_cons_succ]))
          refine wpGrowS_call (by simp only [List.getElem?_toArray, List.getElem?_cons_succ, List.getElem?_cons_zero]; rfl) (by rfl) fun K hK => ?_
          go_simp
          go_fit (HBM.out _ hS)
          rintro e wn ⟨rfl, hbn⟩
          have hSp := hS
          have hS : Below wr.heap.size wr wn := beln hS hbn
          rw [HT2.out]
          go_simp
          refine hK _ _ hS ?_
          clear hK K
          try simp only [Act.put, List.setIfInBounds_toArray, List.set_cons_zero, List.set_cons_succ]
          iterate 1
            (first
              | (refine wpGrowS_float (v := ?_) (by simp only [List.getElem?_toArray, List.getElem?_cons_succ, List.getElem?_cons_zero]; rfl) (by rfl) ?_ ?_
                 rotate_left
                 · (intro W hW; have t0 := (hW.cell (p := ⟨Q, 0, none⟩) hQr).trans f0; have t1 := (hW.cell (p := ⟨Q, 1, none⟩) hQr).trans f1; have t2 := (hW.cell (p := ⟨Q, 2, none⟩) hQr).trans f2; have t3 := (hW.cell (p := ⟨Q, 3, none⟩) hQr).trans f3; have t4 := (hW.cell (p := ⟨Q, 4, none⟩) hQr).trans f4; have t5 := (hW.cell (p := ⟨Q, 5, none⟩) hQr).trans f5; have t6 := (hW.cell (p := ⟨Q, 6, none⟩) hQr).trans f6; have t7 := (hW.cell (p := ⟨Q, 7, none⟩) hQr).trans f7; have t8 := (hW.cell (p := ⟨Q, 8, none⟩) hQr).trans f8; have t9 := (hW.cell (p := ⟨Q, 9, none⟩) hQr).trans f9; have t10 := (hW.cell (p := ⟨Q, 10, none⟩) hQr).trans f10; have v0 := (hW.cell (p := ⟨M, 0, none⟩) hMr).trans g0; have v1 := (hW.cell (p := ⟨M, 1, none⟩) hMr).trans g1; have v2 := (hW.cell (p := ⟨M, 2, none⟩) hMr).trans g2; have v3 := (hW.cell (p := ⟨M, 3, none⟩) hMr).trans g3; have v4 := (hW.cell (p := ⟨M, 4, none⟩) hMr).trans g4; have v5 := (hW.cell (p := ⟨M, 5, none⟩) hMr).trans g5; have v6 := (hW.cell (p := ⟨M, 6, none⟩) hMr).trans g6; have v7 := (hW.cell (p := ⟨M, 7, none⟩) hMr).trans g7; have v8 := (hW.cell (p := ⟨M, 8, none⟩) hMr).trans g8; have v9 := (hW.cell (p := ⟨M, 9, none⟩) hMr).trans g9; have v10 := (hW.cell (p := ⟨M, 10, none⟩) hMr).trans g10; have x0' := (hW.cell (p := ⟨b1, o1 + k * 3, none⟩) hb1).trans x0; have x1' := (hW.cell (p := ⟨b1, o1 + k * 3 + 1, none⟩) hb1).trans x1; have x2' := (hW.cell (p := ⟨b1, o1 + k * 3 + 2, none⟩) hb1).trans x2; (try simp only at *); go_simp; try with_reducible rfl)
                 simp only [Act.put, List.setIfInBounds_toArray, List.set_cons_zero, List.set_cons_succ])
              | (refine wpGrowS_skip (by simp only [List.getElem?_toArray, List.getElem?_cons_succ, List.getElem?_cons_zero]; rfl) (by rfl) ?_
                 simp only [Act.put, List.setIfInBounds_toArray, List.set_cons_zero, List.set_cons_succ]))
          refine wpGrowS_nil ?_
          have HBZ := Lib.hid (beln HB.out hS)
          clear hS f0 f1 f2 f3 f4 f5 f6 f7 f8 f9 f10 g0 g1 g2 g3 g4 g5 g6 g7 g8 g9 g10 x0 x1 x2
          go_wp2
          go_roundw
          case rel => exact ⟨k + 1, by go_num, by omega, HBZ⟩
          case measure => simp [intOf]; omega
        · rcases he : eqI ⟨r0, r1, r2⟩ ⟨s0, s1, s2⟩ with _ | _
          · have HBN2 := Lib.hid fun W (hW : Below wq.heap.size wq W) => HBN.out r0 r1 r2 W hW
            have HBS2 := Lib.hid fun W (hW : Below wq.heap.size wq W) => HBS.out r0 r1 r2 W hW
            rw [HHH.out, he, Bool.false_or] at HBN2
            rw [he] at HE3
            clear he HBN HBS HHH
            generalize hasI ss ⟨r0, r1, r2⟩ = bb at *
            have fbb : (bb == bb) = true := by simp
            go_upto_region 14 with fail
            clear f0 f1 f2 f3 f4 f5 f6 f7 f8 f9 f10 g0 g1 g2 g3 g4 g5 g6 g7 g8 g9 g10 j0 j1 j2 k0 k1 k2
            obtain ⟨e0, e1, e2, e3, e4, e5, e6, e7, e8, e9, e10⟩ := HNQ.out.cells
            obtain ⟨d0, d1, d2, d3, d4, d5, d6, d7, d8, d9, d10⟩ := HM9.out.cells
            obtain ⟨j0, j1, j2⟩ := HI9.out.cells
            obtain ⟨k0, k1, k2⟩ := HJ9.out.cells
            simp only at e0 e1 e2 e3 e4 e5 e6 e7 e8 e9 e10 d0 d1 d2 d3 d4 d5 d6 d7 d8 d9 d10 j0 j1 j2 k0 k1 k2
            have hS := HB.out.drew
            refine wp_region_growS (S := fun W => Below wq.heap.size wq W) [(0, true), (1, true), (3, true), (4, true), (5, true), (6, true), (2, false), (7, true), (8, true), (9, true), (10, false), (11, true), (12, true), (13, true), (14, false), (15, true), (16, true)] (by kernel_rfl) (by kernel_rfl) (by kernel_rfl) (by kernel_rfl) (by intro c a d v w h; cases d <;> exact h) hS ?_
            iterate 6
              (first
                | (refine wpGrowS_float (v := ?_) (by simp only [List.getElem?_toArray, List.getElem?_cons_succ, List.getElem?_cons_zero]; rfl) (by rfl) ?_ ?_
                   rotate_left
                   · (intro W hW; have t0 := (hW.cell (p := ⟨Q, 0, none⟩) hQl).trans e0; have t1 := (hW.cell (p := ⟨Q, 1, none⟩) hQl).trans e1; have t2 := (hW.cell (p := ⟨Q, 2, none⟩) hQl).trans e2; have t3 := (hW.cell (p := ⟨Q, 3, none⟩) hQl).trans e3; have t4 := (hW.cell (p := ⟨Q, 4, none⟩) hQl).trans e4; have t5 := (hW.cell (p := ⟨Q, 5, none⟩) hQl).trans e5; have t6 := (hW.cell (p := ⟨Q, 6, none⟩) hQl).trans e6; have t7 := (hW.cell (p := ⟨Q, 7, none⟩) hQl).trans e7; have t8 := (hW.cell (p := ⟨Q, 8, none⟩) hQl).trans e8; have t9 := (hW.cell (p := ⟨Q, 9, none⟩) hQl).trans e9; have t10 := (hW.cell (p := ⟨Q, 10, none⟩) hQl).trans e10; have v0 := (hW.cell (p := ⟨M, 0, none⟩) hMl).trans d0; have v1 := (hW.cell (p := ⟨M, 1, none⟩) hMl).trans d1; have v2 := (hW.cell (p := ⟨M, 2, none⟩) hMl).trans d2; have v3 := (hW.cell (p := ⟨M, 3, none⟩) hMl).trans d3; have v4 := (hW.cell (p := ⟨M, 4, none⟩) hMl).trans d4; have v5 := (hW.cell (p := ⟨M, 5, none⟩) hMl).trans d5; have v6 := (hW.cell (p := ⟨M, 6, none⟩) hMl).trans d6; have v7 := (hW.cell (p := ⟨M, 7, none⟩) hMl).trans d7; have v8 := (hW.cell (p := ⟨M, 8, none⟩) hMl).trans d8; have v9 := (hW.cell (p := ⟨M, 9, none⟩) hMl).trans d9; have v10 := (hW.cell (p := ⟨M, 10, none⟩) hMl).trans d10; have u0 := (hW.cell (p := ⟨w.heap.size, 0, none⟩) hIl).trans j0; have u1 := (hW.cell (p := ⟨w.heap.size, 1, none⟩) hIl).trans j1; have u2 := (hW.cell (p := ⟨w.heap.size, 2, none⟩) hIl).trans j2; have o0 := (hW.cell (p := ⟨w.heap.size + 1, 0, none⟩) hJl).trans k0; have o1 := (hW.cell (p := ⟨w.heap.size + 1, 1, none⟩) hJl).trans k1; have o2 := (hW.cell (p := ⟨w.heap.size + 1, 2, none⟩) hJl).trans k2; have q1 := fun W => HE1.out W; have q3 := fun W => HE3.out W; (try simp only at *); go_simp; try with_reducible rfl)
                   simp only [Act.put, List.setIfInBounds_toArray, List.set_cons_zero, List.set_cons_succ])
                | (refine wpGrowS_skip (by simp only [List.getElem?_toArray, List.getElem?_cons_succ, List.getElem?_cons_zero]; rfl) (by rfl) ?_
                   simp only [Act.put, List.setIfInBounds_toArray, List.set_cons_zero, List.set_cons_succ]))
            refine wpGrowS_call (by simp only [List.getElem?_toArray, List.getElem?_cons_succ, List.getElem?_cons_zero]; rfl) (by rfl) fun K hK => ?_
            go_simp
            go_fit (HBN2.out _ hS)
            rintro e wn ⟨rfl, hbn⟩
            have hSp := hS
            have hS : Below wq.heap.size wq wn := beln hS hbn
            go_simp
            refine hK _ _ hS ?_
            clear hK K
            try simp only [Act.put, List.setIfInBounds_toArray, List.set_cons_zero, List.set_cons_succ]
            iterate 3
              (first
                | (refine wpGrowS_float (v := ?_) (by simp only [List.getElem?_toArray, List.getElem?_cons_succ, List.getElem?_cons_zero]; rfl) (by rfl) ?_ ?_
                   rotate_left
                   · (intro W hW; have t0 := (hW.cell (p := ⟨Q, 0, none⟩) hQl).trans e0; have t1 := (hW.cell (p := ⟨Q, 1, none⟩) hQl).trans e1; have t2 := (hW.cell (p := ⟨Q, 2, none⟩) hQl).trans e2; have t3 := (hW.cell (p := ⟨Q, 3, none⟩) hQl).trans e3; have t4 := (hW.cell (p := ⟨Q, 4, none⟩) hQl).trans e4; have t5 := (hW.cell (p := ⟨Q, 5, none⟩) hQl).trans e5; have t6 := (hW.cell (p := ⟨Q, 6, none⟩) hQl).trans e6; have t7 := (hW.cell (p := ⟨Q, 7, none⟩) hQl).trans e7; have t8 := (hW.cell (p := ⟨Q, 8, none⟩) hQl).trans e8; have t9 := (hW.cell (p := ⟨Q, 9, none⟩) hQl).trans e9; have t10 := (hW.cell (p := ⟨Q, 10, none⟩) hQl).trans e10; have v0 := (hW.cell (p := ⟨M, 0, none⟩) hMl).trans d0; have v1 := (hW.cell (p := ⟨M, 1, none⟩) hMl).trans d1; have v2 := (hW.cell (p := ⟨M, 2, none⟩) hMl).trans d2; have v3 := (hW.cell (p := ⟨M, 3, none⟩) hMl).trans d3; have v4 := (hW.cell (p := ⟨M, 4, none⟩) hMl).trans d4; have v5 := (hW.cell (p := ⟨M, 5, none⟩) hMl).trans d5; have v6 := (hW.cell (p := ⟨M, 6, none⟩) hMl).trans d6; have v7 := (hW.cell (p := ⟨M, 7, none⟩) hMl).trans d7; have v8 := (hW.cell (p := ⟨M, 8, none⟩) hMl).trans d8; have v9 := (hW.cell (p := ⟨M, 9, none⟩) hMl).trans d9; have v10 := (hW.cell (p := ⟨M, 10, none⟩) hMl).trans d10; have u0 := (hW.cell (p := ⟨w.heap.size, 0, none⟩) hIl).trans j0; have u1 := (hW.cell (p := ⟨w.heap.size, 1, none⟩) hIl).trans j1; have u2 := (hW.cell (p := ⟨w.heap.size, 2, none⟩) hIl).trans j2; have o0 := (hW.cell (p := ⟨w.heap.size + 1, 0, none⟩) hJl).trans k0; have o1 := (hW.cell (p := ⟨w.heap.size + 1, 1, none⟩) hJl).trans k1; have o2 := (hW.cell (p := ⟨w.heap.size + 1, 2, none⟩) hJl).trans k2; have q1 := fun W => HE1.out W; have q3 := fun W => HE3.out W; (try simp only at *); go_simp; try with_reducible rfl)
                   simp only [Act.put, List.setIfInBounds_toArray, List.set_cons_zero, List.set_cons_succ])
                | (refine wpGrowS_skip (by simp only [List.getElem?_toArray, List.getElem?_cons_succ, List.getElem?_cons_zero]; rfl) (by rfl) ?_
                   simp only [Act.put, List.setIfInBounds_toArray, List.set_cons_zero, List.set_cons_succ]))
            refine wpGrowS_call (by simp only [List.getElem?_toArray, List.getElem?_cons_succ, List.getElem?_cons_zero]; rfl) (by rfl) fun K hK => ?_
            go_simp
            go_fit (HBS2.out _ hS)
            rintro e wn ⟨rfl, hbn⟩
            have hSp := hS
            have hS : Below wq.heap.size wq wn := beln hS hbn
            go_simp
            refine hK _ _ hS ?_
            clear hK K
            try simp only [Act.put, List.setIfInBounds_toArray, List.set_cons_zero, List.set_cons_succ]
            iterate 3
              (first
                | (refine wpGrowS_float (v := ?_) (by simp only [List.getElem?_toArray, List.getElem?_cons_succ, List.getElem?_cons_zero]; rfl) (by rfl) ?_ ?_
                   rotate_left
                   · (intro W hW; have t0 := (hW.cell (p := ⟨Q, 0, none⟩) hQl).trans e0; have t1 := (hW.cell (p := ⟨Q, 1, none⟩) hQl).trans e1; have t2 := (hW.cell (p := ⟨Q, 2, none⟩) hQl).trans e2; have t3 := (hW.cell (p := ⟨Q, 3, none⟩) hQl).trans e3; have t4 := (hW.cell (p := ⟨Q, 4, none⟩) hQl).trans e4; have t5 := (hW.cell (p := ⟨Q, 5, none⟩) hQl).trans e5; have t6 := (hW.cell (p := ⟨Q, 6, none⟩) hQl).trans e6; have t7 := (hW.cell (p := ⟨Q, 7, none⟩) hQl).trans e7; have t8 := (hW.cell (p := ⟨Q, 8, none⟩) hQl).trans e8; have t9 := (hW.cell (p := ⟨Q, 9, none⟩) hQl).trans e9; have t10 := (hW.cell (p := ⟨Q, 10, none⟩) hQl).trans e10; have v0 := (hW.cell (p := ⟨M, 0, none⟩) hMl).trans d0; have v1 := (hW.cell (p := ⟨M, 1, none⟩) hMl).trans d1; have v2 := (hW.cell (p := ⟨M, 2, none⟩) hMl).trans d2; have v3 := (hW.cell (p := ⟨M, 3, none⟩) hMl).trans d3; have v4 := (hW.cell (p := ⟨M, 4, none⟩) hMl).trans d4; have v5 := (hW.cell (p := ⟨M, 5, none⟩) hMl).trans d5; have v6 := (hW.cell (p := ⟨M, 6, none⟩) hMl).trans d6; have v7 := (hW.cell (p := ⟨M, 7, none⟩) hMl).trans d7; have v8 := (hW.cell (p := ⟨M, 8, none⟩) hMl).trans d8; have v9 := (hW.cell (p := ⟨M, 9, none⟩) hMl).trans d9; have v10 := (hW.cell (p := ⟨M, 10, none⟩) hMl).trans d10; have u0 := (hW.cell (p := ⟨w.heap.size, 0, none⟩) hIl).trans j0; have u1 := (hW.cell (p := ⟨w.heap.size, 1, none⟩) hIl).trans j1; have u2 := (hW.cell (p := ⟨w.heap.size, 2, none⟩) hIl).trans j2; have o0 := (hW.cell (p := ⟨w.heap.size + 1, 0, none⟩) hJl).trans k0; have o1 := (hW.cell (p := ⟨w.heap.size + 1, 1, none⟩) hJl).trans k1; have o2 := (hW.cell (p := ⟨w.heap.size + 1, 2, none⟩) hJl).trans k2; have q1 := fun W => HE1.out W; have q3 := fun W => HE3.out W; (try simp only at *); go_simp; try with_reducible rfl)
                   simp only [Act.put, List.setIfInBounds_toArray, List.set_cons_zero, List.set_cons_succ])
                | (refine wpGrowS_skip (by simp only [List.getElem?_toArray, List.getElem?_cons_succ, List.getElem?_cons_zero]; rfl) (by rfl) ?_
                   simp only [Act.put, List.setIfInBounds_toArray, List.set_cons_zero, List.set_cons_succ]))
            refine wpGrowS_call (by simp only [List.getElem?_toArray, List.getElem?_cons_succ, List.getElem?_cons_zero]; rfl) (by rfl) fun K hK => ?_
            go_simp
            go_fit (HAW.out _)
            rintro e wn ⟨rfl, hbn⟩
            have hSp := hS
            have hS : Below wq.heap.size wq wn := beln hS hbn
            go_simp
            refine hK _ _ hS ?_
            clear hK K
            try simp only [Act.put, List.setIfInBounds_toArray, List.set_cons_zero, List.set_cons_succ]
            iterate 2
              (first
                | (refine wpGrowS_float (v := ?_) (by simp only [List.getElem?_toArray, List.getElem?_cons_succ, List.getElem?_cons_zero]; rfl) (by rfl) ?_ ?_
                   rotate_left
                   · (intro W hW; have t0 := (hW.cell (p := ⟨Q, 0, none⟩) hQl).trans e0; have t1 := (hW.cell (p := ⟨Q, 1, none⟩) hQl).trans e1; have t2 := (hW.cell (p := ⟨Q, 2, none⟩) hQl).trans e2; have t3 := (hW.cell (p := ⟨Q, 3, none⟩) hQl).trans e3; have t4 := (hW.cell (p := ⟨Q, 4, none⟩) hQl).trans e4; have t5 := (hW.cell (p := ⟨Q, 5, none⟩) hQl).trans e5; have t6 := (hW.cell (p := ⟨Q, 6, none⟩) hQl).trans e6; have t7 := (hW.cell (p := ⟨Q, 7, none⟩) hQl).trans e7; have t8 := (hW.cell (p := ⟨Q, 8, none⟩) hQl).trans e8; have t9 := (hW.cell (p := ⟨Q, 9, none⟩) hQl).trans e9; have t10 := (hW.cell (p := ⟨Q, 10, none⟩) hQl).trans e10; have v0 := (hW.cell (p := ⟨M, 0, none⟩) hMl).trans d0; have v1 := (hW.cell (p := ⟨M, 1, none⟩) hMl).trans d1; have v2 := (hW.cell (p := ⟨M, 2, none⟩) hMl).trans d2; have v3 := (hW.cell (p := ⟨M, 3, none⟩) hMl).trans d3; have v4 := (hW.cell (p := ⟨M, 4, none⟩) hMl).trans d4; have v5 := (hW.cell (p := ⟨M, 5, none⟩) hMl).trans d5; have v6 := (hW.cell (p := ⟨M, 6, none⟩) hMl).trans d6; have v7 := (hW.cell (p := ⟨M, 7, none⟩) hMl).trans d7; have v8 := (hW.cell (p := ⟨M, 8, none⟩) hMl).trans d8; have v9 := (hW.cell (p := ⟨M, 9, none⟩) hMl).trans d9; have v10 := (hW.cell (p := ⟨M, 10, none⟩) hMl).trans d10; have u0 := (hW.cell (p := ⟨w.heap.size, 0, none⟩) hIl).trans j0; have u1 := (hW.cell (p := ⟨w.heap.size, 1, none⟩) hIl).trans j1; have u2 := (hW.cell (p := ⟨w.heap.size, 2, none⟩) hIl).trans j2; have o0 := (hW.cell (p := ⟨w.heap.size + 1, 0, none⟩) hJl).trans k0; have o1 := (hW.cell (p := ⟨w.heap.size + 1, 1, none⟩) hJl).trans k1; have o2 := (hW.cell (p := ⟨w.heap.size + 1, 2, none⟩) hJl).trans k2; have q1 := fun W => HE1.out W; have q3 := fun W => HE3.out W; (try simp only at *); go_simp; try with_reducible rfl)
                   simp only [Act.put, List.setIfInBounds_toArray, List.set_cons_zero, List.set_cons_succ])
                | (refine wpGrowS_skip (by simp only [List.getElem?_toArray, List.getElem?_cons_succ, List.getElem?_cons_zero]; rfl) (by rfl) ?_
                   simp only [Act.put, List.setIfInBounds_toArray, List.set_cons_zero, List.set_cons_succ]))
            refine wpGrowS_nil ?_
            have HF := Lib.hid hS
            clear hS
            go_wp2
            go_ret
            exact ⟨rfl, beln HBX.out HF.out⟩
          · have HBN2 := Lib.hid fun W (hW : Below wq.heap.size wq W) => HBN.out r0 r1 r2 W hW
            rw [HHH.out, he, Bool.true_or] at HBN2
            rw [he] at HE3
            clear he HBN HBS HHH
            go_upto_region 14 with fail
            clear f0 f1 f2 f3 f4 f5 f6 f7 f8 f9 f10 g0 g1 g2 g3 g4 g5 g6 g7 g8 g9 g10 j0 j1 j2 k0 k1 k2
            obtain ⟨e0, e1, e2, e3, e4, e5, e6, e7, e8, e9, e10⟩ := HNQ.out.cells
            obtain ⟨d0, d1, d2, d3, d4, d5, d6, d7, d8, d9, d10⟩ := HM9.out.cells
            obtain ⟨j0, j1, j2⟩ := HI9.out.cells
            obtain ⟨k0, k1, k2⟩ := HJ9.out.cells
            simp only at e0 e1 e2 e3 e4 e5 e6 e7 e8 e9 e10 d0 d1 d2 d3 d4 d5 d6 d7 d8 d9 d10 j0 j1 j2 k0 k1 k2
            have hS := HB.out.drew
            refine wp_region_growS (S := fun W => Below wq.heap.size wq W) [(0, true), (1, true), (3, true), (4, true), (5, true), (6, true), (2, false), (7, true), (8, true), (9, true), (10, false), (11, true), (12, true), (13, true), (14, false), (15, true), (16, true)] (by kernel_rfl) (by kernel_rfl) (by kernel_rfl) (by kernel_rfl) (by intro c a d v w h; cases d <;> exact h) hS ?_
            iterate 6
              (first
                | (refine wpGrowS_float (v := ?_) (by simp only [List.getElem?_toArray, List.getElem?_cons_succ, List.getElem?_cons_zero]; rfl) (by rfl) ?_ ?_
                   rotate_left
                   · (intro W hW; have t0 := (hW.cell (p := ⟨Q, 0, none⟩) hQl).trans e0; have t1 := (hW.cell (p := ⟨Q, 1, none⟩) hQl).trans e1; have t2 := (hW.cell (p := ⟨Q, 2, none⟩) hQl).trans e2; have t3 := (hW.cell (p := ⟨Q, 3, none⟩) hQl).trans e3; have t4 := (hW.cell (p := ⟨Q, 4, none⟩) hQl).trans e4; have t5 := (hW.cell (p := ⟨Q, 5, none⟩) hQl).trans e5; have t6 := (hW.cell (p := ⟨Q, 6, none⟩) hQl).trans e6; have t7 := (hW.cell (p := ⟨Q, 7, none⟩) hQl).trans e7; have t8 := (hW.cell (p := ⟨Q, 8, none⟩) hQl).trans e8; have t9 := (hW.cell (p := ⟨Q, 9, none⟩) hQl).trans e9; have t10 := (hW.cell (p := ⟨Q, 10, none⟩) hQl).trans e10; have v0 := (hW.cell (p := ⟨M, 0, none⟩) hMl).trans d0; have v1 := (hW.cell (p := ⟨M, 1, none⟩) hMl).trans d1; have v2 := (hW.cell (p := ⟨M, 2, none⟩) hMl).trans d2; have v3 := (hW.cell (p := ⟨M, 3, none⟩) hMl).trans d3; have v4 := (hW.cell (p := ⟨M, 4, none⟩) hMl).trans d4; have v5 := (hW.cell (p := ⟨M, 5, none⟩) hMl).trans d5; have v6 := (hW.cell (p := ⟨M, 6, none⟩) hMl).trans d6; have v7 := (hW.cell (p := ⟨M, 7, none⟩) hMl).trans d7; have v8 := (hW.cell (p := ⟨M, 8, none⟩) hMl).trans d8; have v9 := (hW.cell (p := ⟨M, 9, none⟩) hMl).trans d9; have v10 := (hW.cell (p := ⟨M, 10, none⟩) hMl).trans d10; have u0 := (hW.cell (p := ⟨w.heap.size, 0, none⟩) hIl).trans j0; have u1 := (hW.cell (p := ⟨w.heap.size, 1, none⟩) hIl).trans j1; have u2 := (hW.cell (p := ⟨w.heap.size, 2, none⟩) hIl).trans j2; have o0 := (hW.cell (p := ⟨w.heap.size + 1, 0, none⟩) hJl).trans k0; have o1 := (hW.cell (p := ⟨w.heap.size + 1, 1, none⟩) hJl).trans k1; have o2 := (hW.cell (p := ⟨w.heap.size + 1, 2, none⟩) hJl).trans k2; have q1 := fun W => HE1.out W; have q3 := fun W => HE3.out W; (try simp only at *); go_simp; try with_reducible rfl)
                   simp only [Act.put, List.setIfInBounds_toArray, List.set_cons_zero, List.set_cons_succ])
                | (refine wpGrowS_skip (by simp only [List.getElem?_toArray, List.getElem?_cons_succ, List.getElem?_cons_zero]; rfl) (by rfl) ?_
                   simp only [Act.put, List.setIfInBounds_toArray, List.set_cons_zero, List.set_cons_succ]))
            refine wpGrowS_call (by simp only [List.getElem?_toArray, List.getElem?_cons_succ, List.getElem?_cons_zero]; rfl) (by rfl) fun K hK => ?_
            go_simp
            go_fit (HBN2.out _ hS)
            rintro e wn ⟨rfl, hbn⟩
            have hSp := hS
            have hS : Below wq.heap.size wq wn := beln hS hbn
            go_simp
            refine hK _ _ hS ?_
            clear hK K
            try simp only [Act.put, List.setIfInBounds_toArray, List.set_cons_zero, List.set_cons_succ]
            iterate 3
              (first
                | (refine wpGrowS_float (v := ?_) (by simp only [List.getElem?_toArray, List.getElem?_cons_succ, List.getElem?_cons_zero]; rfl) (by rfl) ?_ ?_
                   rotate_left
                   · (intro W hW; have t0 := (hW.cell (p := ⟨Q, 0, none⟩) hQl).trans e0; have t1 := (hW.cell (p := ⟨Q, 1, none⟩) hQl).trans e1; have t2 := (hW.cell (p := ⟨Q, 2, none⟩) hQl).trans e2; have t3 := (hW.cell (p := ⟨Q, 3, none⟩) hQl).trans e3; have t4 := (hW.cell (p := ⟨Q, 4, none⟩) hQl).trans e4; have t5 := (hW.cell (p := ⟨Q, 5, none⟩) hQl).trans e5; have t6 := (hW.cell (p := ⟨Q, 6, none⟩) hQl).trans e6; have t7 := (hW.cell (p := ⟨Q, 7, none⟩) hQl).trans e7; have t8 := (hW.cell (p := ⟨Q, 8, none⟩) hQl).trans e8; have t9 := (hW.cell (p := ⟨Q, 9, none⟩) hQl).trans e9; have t10 := (hW.cell (p := ⟨Q, 10, none⟩) hQl).trans e10; have v0 := (hW.cell (p := ⟨M, 0, none⟩) hMl).trans d0; have v1 := (hW.cell (p := ⟨M, 1, none⟩) hMl).trans d1; have v2 := (hW.cell (p := ⟨M, 2, none⟩) hMl).trans d2; have v3 := (hW.cell (p := ⟨M, 3, none⟩) hMl).trans d3; have v4 := (hW.cell (p := ⟨M, 4, none⟩) hMl).trans d4; have v5 := (hW.cell (p := ⟨M, 5, none⟩) hMl).trans d5; have v6 := (hW.cell (p := ⟨M, 6, none⟩) hMl).trans d6; have v7 := (hW.cell (p := ⟨M, 7, none⟩) hMl).trans d7; have v8 := (hW.cell (p := ⟨M, 8, none⟩) hMl).trans d8; have v9 := (hW.cell (p := ⟨M, 9, none⟩) hMl).trans d9; have v10 := (hW.cell (p := ⟨M, 10, none⟩) hMl).trans d10; have u0 := (hW.cell (p := ⟨w.heap.size, 0, none⟩) hIl).trans j0; have u1 := (hW.cell (p := ⟨w.heap.size, 1, none⟩) hIl).trans j1; have u2 := (hW.cell (p := ⟨w.heap.size, 2, none⟩) hIl).trans j2; have o0 := (hW.cell (p := ⟨w.heap.size + 1, 0, none⟩) hJl).trans k0; have o1 := (hW.cell (p := ⟨w.heap.size + 1, 1, none⟩) hJl).trans k1; have o2 := (hW.cell (p := ⟨w.heap.size + 1, 2, none⟩) hJl).trans k2; have q1 := fun W => HE1.out W; have q3 := fun W => HE3.out W; (try simp only at *); go_simp; try with_reducible rfl)
                   simp only [Act.put, List.setIfInBounds_toArray, List.set_cons_zero, List.set_cons_succ])
                | (refine wpGrowS_skip (by simp only [List.getElem?_toArray, List.getElem?_cons_succ, List.getElem?_cons_zero]; rfl) (by rfl) ?_
                   simp only [Act.put, List.setIfInBounds_toArray, List.set_cons_zero, List.set_cons_succ]))
            refine wpGrowS_pass hS (by simp only [List.getElem?_toArray, List.getElem?_cons_succ, List.getElem?_cons_zero]; rfl) (by rfl) ?_
            try simp only [Act.put, List.setIfInBounds_toArray, List.set_cons_zero, List.set_cons_succ]
            iterate 3
              (first
                | (refine wpGrowS_float (v := ?_) (by simp only [List.getElem?_toArray, List.getElem?_cons_succ, List.getElem?_cons_zero]; rfl) (by rfl) ?_ ?_
                   rotate_left
                   · (intro W hW; have t0 := (hW.cell (p := ⟨Q, 0, none⟩) hQl).trans e0; have t1 := (hW.cell (p := ⟨Q, 1, none⟩) hQl).trans e1; have t2 := (hW.cell (p := ⟨Q, 2, none⟩) hQl).trans e2; have t3 := (hW.cell (p := ⟨Q, 3, none⟩) hQl).trans e3; have t4 := (hW.cell (p := ⟨Q, 4, none⟩) hQl).trans e4; have t5 := (hW.cell (p := ⟨Q, 5, none⟩) hQl).trans e5; have t6 := (hW.cell (p := ⟨Q, 6, none⟩) hQl).trans e6; have t7 := (hW.cell (p := ⟨Q, 7, none⟩) hQl).trans e7; have t8 := (hW.cell (p := ⟨Q, 8, none⟩) hQl).trans e8; have t9 := (hW.cell (p := ⟨Q, 9, none⟩) hQl).trans e9; have t10 := (hW.cell (p := ⟨Q, 10, none⟩) hQl).trans e10; have v0 := (hW.cell (p := ⟨M, 0, none⟩) hMl).trans d0; have v1 := (hW.cell (p := ⟨M, 1, none⟩) hMl).trans d1; have v2 := (hW.cell (p := ⟨M, 2, none⟩) hMl).trans d2; have v3 := (hW.cell (p := ⟨M, 3, none⟩) hMl).trans d3; have v4 := (hW.cell (p := ⟨M, 4, none⟩) hMl).trans d4; have v5 := (hW.cell (p := ⟨M, 5, none⟩) hMl).trans d5; have v6 := (hW.cell (p := ⟨M, 6, none⟩) hMl).trans d6; have v7 := (hW.cell (p := ⟨M, 7, none⟩) hMl).trans d7; have v8 := (hW.cell (p := ⟨M, 8, none⟩) hMl).trans d8; have v9 := (hW.cell (p := ⟨M, 9, none⟩) hMl).trans d9; have v10 := (hW.cell (p := ⟨M, 10, none⟩) hMl).trans d10; have u0 := (hW.cell (p := ⟨w.heap.size, 0, none⟩) hIl).trans j0; have u1 := (hW.cell (p := ⟨w.heap.size, 1, none⟩) hIl).trans j1; have u2 := (hW.cell (p := ⟨w.heap.size, 2, none⟩) hIl).trans j2; have o0 := (hW.cell (p := ⟨w.heap.size + 1, 0, none⟩) hJl).trans k0; have o1 := (hW.cell (p := ⟨w.heap.size + 1, 1, none⟩) hJl).trans k1; have o2 := (hW.cell (p := ⟨w.heap.size + 1, 2, none⟩) hJl).trans k2; have q1 := fun W => HE1.out W; have q3 := fun W => HE3.out W; (try simp only at *); go_simp; try with_reducible rfl)
                   simp only [Act.put, List.setIfInBounds_toArray, List.set_cons_zero, List.set_cons_succ])
                | (refine wpGrowS_skip (by simp only [List.getElem?_toArray, List.getElem?_cons_succ, List.getElem?_cons_zero]; rfl) (by rfl) ?_
                   simp only [Act.put, List.setIfInBounds_toArray, List.set_cons_zero, List.set_cons_succ]))
            refine wpGrowS_call (by simp only [List.getElem?_toArray, List.getElem?_cons_succ, List.getElem?_cons_zero]; rfl) (by rfl) fun K hK => ?_
            go_simp
            go_fit (HAW.out _)
            rintro e wn ⟨rfl, hbn⟩
            have hSp := hS
            have hS : Below wq.heap.size wq wn := beln hS hbn
            go_simp
            refine hK _ _ hS ?_
            clear hK K
            try simp only [Act.put, List.setIfInBounds_toArray, List.set_cons_zero, List.set_cons_succ]
            iterate 2
              (first
                | (refine wpGrowS_float (v := ?_) (by simp only [List.getElem?_toArray, List.getElem?_cons_succ, List.getElem?_cons_zero]; rfl) (by rfl) ?_ ?_
                   rotate_left
                   · (intro W hW; have t0 := (hW.cell (p := ⟨Q, 0, none⟩) hQl).trans e0; have t1 := (hW.cell (p := ⟨Q, 1, none⟩) hQl).trans e1; have t2 := (hW.cell (p := ⟨Q, 2, none⟩) hQl).trans e2; have t3 := (hW.cell (p := ⟨Q, 3, none⟩) hQl).trans e3; have t4 := (hW.cell (p := ⟨Q, 4, none⟩) hQl).trans e4; have t5 := (hW.cell (p := ⟨Q, 5, none⟩) hQl).trans e5; have t6 := (hW.cell (p := ⟨Q, 6, none⟩) hQl).trans e6; have t7 := (hW.cell (p := ⟨Q, 7, none⟩) hQl).trans e7; have t8 := (hW.cell (p := ⟨Q, 8, none⟩) hQl).trans e8; have t9 := (hW.cell (p := ⟨Q, 9, none⟩) hQl).trans e9; have t10 := (hW.cell (p := ⟨Q, 10, none⟩) hQl).trans e10; have v0 := (hW.cell (p := ⟨M, 0, none⟩) hMl).trans d0; have v1 := (hW.cell (p := ⟨M, 1, none⟩) hMl).trans d1; have v2 := (hW.cell (p := ⟨M, 2, none⟩) hMl).trans d2; have v3 := (hW.cell (p := ⟨M, 3, none⟩) hMl).trans d3; have v4 := (hW.cell (p := ⟨M, 4, none⟩) hMl).trans d4; have v5 := (hW.cell (p := ⟨M, 5, none⟩) hMl).trans d5; have v6 := (hW.cell (p := ⟨M, 6, none⟩) hMl).trans d6; have v7 := (hW.cell (p := ⟨M, 7, none⟩) hMl).trans d7; have v8 := (hW.cell (p := ⟨M, 8, none⟩) hMl).trans d8; have v9 := (hW.cell (p := ⟨M, 9, none⟩) hMl).trans d9; have v10 := (hW.cell (p := ⟨M, 10, none⟩) hMl).trans d10; have u0 := (hW.cell (p := ⟨w.heap.size, 0, none⟩) hIl).trans j0; have u1 := (hW.cell (p := ⟨w.heap.size, 1, none⟩) hIl).trans j1; have u2 := (hW.cell (p := ⟨w.heap.size, 2, none⟩) hIl).trans j2; have o0 := (hW.cell (p := ⟨w.heap.size + 1, 0, none⟩) hJl).trans k0; have o1 := (hW.cell (p := ⟨w.heap.size + 1, 1, none⟩) hJl).trans k1; have o2 := (hW.cell (p := ⟨w.heap.size + 1, 2, none⟩) hJl).trans k2; have q1 := fun W => HE1.out W; have q3 := fun W => HE3.out W; (try simp only at *); go_simp; try with_reducible rfl)
                   simp only [Act.put, List.setIfInBounds_toArray, List.set_cons_zero, List.set_cons_succ])
                | (refine wpGrowS_skip (by simp only [List.getElem?_toArray, List.getElem?_cons_succ, List.getElem?_cons_zero]; rfl) (by rfl) ?_
                   simp only [Act.put, List.setIfInBounds_toArray, List.set_cons_zero, List.set_cons_succ]))
            refine wpGrowS_nil ?_
            have HF := Lib.hid hS
            clear hS
            go_wp2
            go_ret
            exact ⟨rfl, beln HBX.out HF.out⟩
end Go.Proofs.Ytndppbfdcceflaa
