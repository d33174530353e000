/-
  The law RangeHalves returns true.
  Conditions: none.
-/
import Derived.Test.YtlndafkmihdbmaaDoorLrd
namespace Go.Proofs.YtlndafkmihdbmaaDoor
open Go.RowKit

theorem lit3 (w : World) (a b c : GR) : GRow GR.cells 2 (w.alloc (.cells #[.int .i64 a.base, .int .i64 a.bits, .int .i64 b.base, .int .i64 b.bits, .int .i64 c.base, .int .i64 c.bits] 23)) (w.alloc (.cells #[.int .i64 a.base, .int .i64 a.bits, .int .i64 b.base, .int .i64 b.bits, .int .i64 c.base, .int .i64 c.bits] 23)).heap.size (some ⟨w.heap.size, 0, none⟩) [a, b, c] := by
  obtain ⟨A, c', e, _, _, hr⟩ := (OwnG.lit GR.len w w.heap.size (T := 23) [a, b, c] #[.int .i64 a.base, .int .i64 a.bits, .int .i64 b.base, .int .i64 b.bits, .int .i64 c.base, .int .i64 c.bits] rfl (Nat.le_refl _) (by unfold maxLen; simp)).row GR.len
  cases e
  exact hr
structure HalfS (r l g : GR) : Prop where
  lb : l.base = r.base
  e1 : endR l = g.base
  e2 : endR g = endR r
  ov : ovR l g = false
  c1 : conR r l = true
  c2 : conR r g = true
  cov : covL [l, g, r] = r.sz
theorem half_facts {r : GR} (h : VR r) (h6 : r.bits ≠ 6) : HalfS r (lowR r) (highR r) := by
  have H := halves h h6
  have hb := H.hb
  have hs := H.sl
  have h1 : (lowR r).base = r.base := rfl
  refine ⟨rfl, by rw [H.low.endR]; omega, by rw [H.high.endR, h.endR]; omega, ?_, H.cl, H.ch, ?_⟩
  · rw [Bool.eq_false_iff]
    intro hq
    have := ov_iff.1 hq
    omega
  · rw [cov_ms]
    refine ms_whole h (fun f hf => .inl ?_) (by simp)
    simp only [List.mem_cons, List.not_mem_nil, or_false] at hf
    rcases hf with rfl | rfl | rfl
    · exact H.cl
    · exact H.ch
    · exact con_refl h
set_option maxRecDepth 20000 in
set_option maxHeartbeats 8000000 in
theorem lhalves (a b : Int) (w : World) (hG : T10 w) : Calls Tryd.prog 8 #[.int .i64 a, .int .i64 b] w fun e w' => e = .returned (.bool true) ∧ Below w.heap.size w w' := by
  have HBL := Lib.hid fun a b W => mBlock_any a b W
  have HAW := Lib.hid fun W hb => awake10 W (T10.next hG hb)
  have HH := Lib.hid fun r W => pHalves_any r W
  have HE := Lib.hid fun r W => pEnd_any r W
  have HO := Lib.hid fun a b W => pOv_any a b W
  have HC := Lib.hid fun a b W => pCon_any a b W
  have HQ := Lib.hid fun l A c W h => pCov_any l A c W h
  go_enter Tryd.func8, Tryd.ntmps8
  go_wp2_with fail
  go_fit (HBL.out a b _)
  rintro e w1 ⟨⟨rb, rn⟩, hvx, _, _, rfl, hb1⟩
  have HB1 := Lib.hid (belt hb1 (.cells #[.int .i64 rb, .int .i64 rn] 23))
  have HVX := Lib.hid hvx
  have HX1 := Lib.hid (RB.new w1 ⟨rb, rn⟩)
  have HH2 := Lib.hid (HH.out ⟨rb, rn⟩)
  clear hb1 HH HBL
  simp only [GR.val]
  simp only [GR.val] at HH2
  by_cases h6 : rn = 6
  · have HHE : Hid (halvesV ⟨rb, rn⟩ = .tuple #[zR.val, zR.val, .bool false]) := Lib.hid (by unfold halvesV hasH; rw [h6]; simp)
    rw [HHE.out] at HH2
    simp only [GR.val, zR] at HH2
    have HH6 := Lib.hid h6
    clear h6 hvx HHE
    go_wp2_with fail
    go_fit (HH2.out _)
    rintro e w2 ⟨rfl, hb2⟩
    have HB2 := Lib.hid (belt (belt (beln HB1.out hb2) (.cells #[.int .i64 0, .int .i64 0] 23)) (.cells #[.int .i64 0, .int .i64 0] 23))
    obtain ⟨x0, x1, _, _⟩ := RB.facts (RB.next HX1.out (belt (belt hb2 (.cells #[.int .i64 0, .int .i64 0] 23)) (.cells #[.int .i64 0, .int .i64 0] 23)))
    have h6 := HH6.out
    have HA := Lib.hid (HAW.out ((w2.alloc (.cells #[.int .i64 0, .int .i64 0] 23)).alloc (.cells #[.int .i64 0, .int .i64 0] 23)) (HB2.out))
    clear hb2
    go_wp2_with fail
    go_fit HA.out
    rintro e w3 ⟨rfl, hb3⟩
    have HB3 := Lib.hid (beln HB2.out hb3)
    clear hb3
    go_wp2
    go_ret
    exact ⟨rfl, HB3.out⟩
  · have HF := Lib.hid (half_facts hvx h6)
    have HHE : Hid (halvesV ⟨rb, rn⟩ = .tuple #[(lowR ⟨rb, rn⟩).val, (highR ⟨rb, rn⟩).val, .bool true]) := Lib.hid (by unfold halvesV hasH; rw [vR_iff.2 hvx, decide_eq_true h6]; rfl)
    rw [HHE.out] at HH2
    generalize lowR ⟨rb, rn⟩ = lw at *
    generalize highR ⟨rb, rn⟩ = hg at *
    obtain ⟨lb, ln⟩ := lw
    obtain ⟨gb, gn⟩ := hg
    simp only [GR.val] at HH2
    have h1 : 6 ≤ rn := hvx.lo
    have h2 : rn ≤ 40 := hvx.hi
    have hsh : IntKind.i64.wrap (2 ^ rn.toNat) = pw rn := shl_one (by omega) (by omega)
    have hsh2 : wrap64 (2 ^ rn.toNat) = pw rn := shl_one64 (by omega) (by omega)
    have HE1 := Lib.hid (HE.out ⟨lb, ln⟩)
    have HE2 := Lib.hid (HE.out ⟨gb, gn⟩)
    have HE3 := Lib.hid (HE.out ⟨rb, rn⟩)
    have HOV := Lib.hid (HO.out ⟨lb, ln⟩ ⟨gb, gn⟩)
    have HC1 := Lib.hid (HC.out ⟨rb, rn⟩ ⟨lb, ln⟩)
    have HC2 := Lib.hid (HC.out ⟨rb, rn⟩ ⟨gb, gn⟩)
    have HCV := Lib.hid fun A c W h => HQ.out [⟨lb, ln⟩, ⟨gb, gn⟩, ⟨rb, rn⟩] A c W h (by simp)
    rw [HF.out.e1] at HE1
    rw [HF.out.e2] at HE2
    rw [HF.out.ov] at HOV
    rw [HF.out.c1] at HC1
    rw [HF.out.c2] at HC2
    rw [HF.out.cov, show GR.sz ⟨rb, rn⟩ = pw rn from rfl] at HCV
    generalize pw rn = z at *
    have HSA := Lib.hid hsh
    have HSB := Lib.hid hsh2
    clear hsh hsh2
    have HLT := Lib.hid fun W => lit3 W ⟨lb, ln⟩ ⟨gb, gn⟩ ⟨rb, rn⟩
    obtain rfl : lb = rb := HF.out.lb
    simp only [GR.val, List.length_cons, List.length_nil] at *
    generalize endR ⟨lb, rn⟩ = er at *
    have HH6 := Lib.hid h6
    have HL1 := Lib.hid h1
    have HL2 := Lib.hid h2
    clear h6 hvx HHE h1 h2
    go_wp2_with fail
    go_fit (HH2.out _)
    rintro e w2 ⟨rfl, hb2⟩
    have HB2 := Lib.hid (belt (belt (beln HB1.out hb2) (.cells #[.int .i64 lb, .int .i64 ln] 23)) (.cells #[.int .i64 gb, .int .i64 gn] 23))
    have HX2 := Lib.hid (RB.next HX1.out (belt (belt hb2 (.cells #[.int .i64 lb, .int .i64 ln] 23)) (.cells #[.int .i64 gb, .int .i64 gn] 23)))
    have HY2 : Hid (RB ((w2.alloc (.cells #[.int .i64 lb, .int .i64 ln] 23)).alloc (.cells #[.int .i64 gb, .int .i64 gn] 23)) w2.heap.size ⟨lb, ln⟩) := Lib.hid ((RB.new w2 ⟨lb, ln⟩).next ((Below.refl _ _).alloc (Nat.le_refl _) _))
    have HZ2 : Hid (RB ((w2.alloc (.cells #[.int .i64 lb, .int .i64 ln] 23)).alloc (.cells #[.int .i64 gb, .int .i64 gn] 23)) (w2.heap.size + 1) ⟨gb, gn⟩) := Lib.hid (by
      have h9 := RB.new (w2.alloc (.cells #[.int .i64 lb, .int .i64 ln] 23)) ⟨gb, gn⟩
      simpa using h9)
    obtain ⟨x0, x1, _, _⟩ := RB.facts HX2.out
    have h6 := HH6.out
    clear hb2
    go_upto_region 5 with fail
    have hsh := HSA.out
    have hsh2 := HSB.out
    have h1 := HL1.out
    have h2 := HL2.out
    have hcu : IntKind.u64.wrap rn = rn := by rw [IntKind.wrap_u64]; omega
    have hmin : min rn.toNat 64 = rn.toNat := by omega
    generalize ((w2.alloc (.cells #[.int .i64 lb, .int .i64 ln] 23)).alloc (.cells #[.int .i64 gb, .int .i64 gn] 23)) = w3 at *
    have hS : Below w.heap.size w w3.drew ∧ RB w3.drew w1.heap.size ⟨lb, rn⟩ ∧ RB w3.drew w2.heap.size ⟨lb, ln⟩ ∧ RB w3.drew (w2.heap.size + 1) ⟨gb, gn⟩ := ⟨HB2.out.drew, HX2.out, HY2.out, HZ2.out⟩
    refine wp_region_growS (S := fun W => Below w.heap.size w W ∧ RB W w1.heap.size ⟨lb, rn⟩ ∧ RB W w2.heap.size ⟨lb, ln⟩ ∧ RB W (w2.heap.size + 1) ⟨gb, gn⟩) [(0, true), (1, true), (2, true), (3, true), (4, true), (5, true), (6, true), (7, true), (8, true), (9, true), (11, true), (12, true), (10, false), (13, true), (14, true), (15, true), (16, true), (18, true), (17, false), (19, false), (20, true), (21, true), (22, true), (23, true), (24, true), (25, false), (26, true), (27, true), (28, true), (29, true), (30, true), (31, false), (32, true), (33, true), (34, true), (35, true), (36, false), (37, true), (38, true), (39, true), (40, true), (41, true), (44, true), (45, true), (46, true), (47, true), (42, false), (43, false), (48, true), (49, true), (50, true), (51, false), (52, true), (53, true)] (by kernel_rfl) (by kernel_rfl) (by kernel_rfl) (by kernel_rfl) (by intro c a d v w h; cases d <;> exact h) hS ?_
    iterate 12
      (first
        | (refine wpGrowS_float (v := ?_) (by simp only [List.getElem?_toArray, List.getElem?_cons_succ, List.getElem?_cons_zero]; rfl) (by rfl) ?_ ?_
           rotate_left
           · (intro W hW; obtain ⟨f1a, f1b, _, _⟩ := RB.facts (hW.2.1); obtain ⟨f2a, f2b, _, _⟩ := RB.facts (hW.2.2.1); obtain ⟨f3a, f3b, _, _⟩ := RB.facts (hW.2.2.2); go_simp; try with_reducible rfl)
           simp only [Act.put, List.setIfInBounds_toArray, List.set_cons_zero, List.set_cons_succ])
        | (refine wpGrowS_skip (by simp only [List.getElem?_toArray, List.getElem?_cons_succ, List.getElem?_cons_zero]; rfl) (by rfl) ?_
           simp only [Act.put, List.setIfInBounds_toArray, List.set_cons_zero, List.set_cons_succ]))
    refine wpGrowS_call (by simp only [List.getElem?_toArray, List.getElem?_cons_succ, List.getElem?_cons_zero]; rfl) (by rfl) fun K hK => ?_
    go_simp
    go_fit (HE1.out _)
    rintro e wn ⟨rfl, hbn⟩
    have hS : Below w.heap.size w wn ∧ RB wn w1.heap.size ⟨lb, rn⟩ ∧ RB wn w2.heap.size ⟨lb, ln⟩ ∧ RB wn (w2.heap.size + 1) ⟨gb, gn⟩ := ⟨beln (hS.1) hbn, RB.next (hS.2.1) hbn, RB.next (hS.2.2.1) hbn, RB.next (hS.2.2.2) hbn⟩
    go_simp
    refine hK _ _ hS ?_
    clear hK K
    try simp only [Act.put, List.setIfInBounds_toArray, List.set_cons_zero, List.set_cons_succ]
    iterate 5
      (first
        | (refine wpGrowS_float (v := ?_) (by simp only [List.getElem?_toArray, List.getElem?_cons_succ, List.getElem?_cons_zero]; rfl) (by rfl) ?_ ?_
           rotate_left
           · (intro W hW; obtain ⟨f1a, f1b, _, _⟩ := RB.facts (hW.2.1); obtain ⟨f2a, f2b, _, _⟩ := RB.facts (hW.2.2.1); obtain ⟨f3a, f3b, _, _⟩ := RB.facts (hW.2.2.2); go_simp; try with_reducible rfl)
           simp only [Act.put, List.setIfInBounds_toArray, List.set_cons_zero, List.set_cons_succ])
        | (refine wpGrowS_skip (by simp only [List.getElem?_toArray, List.getElem?_cons_succ, List.getElem?_cons_zero]; rfl) (by rfl) ?_
           simp only [Act.put, List.setIfInBounds_toArray, List.set_cons_zero, List.set_cons_succ]))
    refine wpGrowS_call (by simp only [List.getElem?_toArray, List.getElem?_cons_succ, List.getElem?_cons_zero]; rfl) (by rfl) fun K hK => ?_
    go_simp
    go_fit (HE2.out _)
    rintro e wn ⟨rfl, hbn⟩
    have hS : Below w.heap.size w wn ∧ RB wn w1.heap.size ⟨lb, rn⟩ ∧ RB wn w2.heap.size ⟨lb, ln⟩ ∧ RB wn (w2.heap.size + 1) ⟨gb, gn⟩ := ⟨beln (hS.1) hbn, RB.next (hS.2.1) hbn, RB.next (hS.2.2.1) hbn, RB.next (hS.2.2.2) hbn⟩
    go_simp
    refine hK _ _ hS ?_
    clear hK K
    try simp only [Act.put, List.setIfInBounds_toArray, List.set_cons_zero, List.set_cons_succ]
    refine wpGrowS_call (by simp only [List.getElem?_toArray, List.getElem?_cons_succ, List.getElem?_cons_zero]; rfl) (by rfl) fun K hK => ?_
    go_simp
    go_fit (HE3.out _)
    rintro e wn ⟨rfl, hbn⟩
    have hS : Below w.heap.size w wn ∧ RB wn w1.heap.size ⟨lb, rn⟩ ∧ RB wn w2.heap.size ⟨lb, ln⟩ ∧ RB wn (w2.heap.size + 1) ⟨gb, gn⟩ := ⟨beln (hS.1) hbn, RB.next (hS.2.1) hbn, RB.next (hS.2.2.1) hbn, RB.next (hS.2.2.2) hbn⟩
    go_simp
    refine hK _ _ hS ?_
    clear hK K
    try simp only [Act.put, List.setIfInBounds_toArray, List.set_cons_zero, List.set_cons_succ]
    iterate 5
      (first
        | (refine wpGrowS_float (v := ?_) (by simp only [List.getElem?_toArray, List.getElem?_cons_succ, List.getElem?_cons_zero]; rfl) (by rfl) ?_ ?_
           rotate_left
           · (intro W hW; obtain ⟨f1a, f1b, _, _⟩ := RB.facts (hW.2.1); obtain ⟨f2a, f2b, _, _⟩ := RB.facts (hW.2.2.1); obtain ⟨f3a, f3b, _, _⟩ := RB.facts (hW.2.2.2); go_simp; try with_reducible rfl)
           simp only [Act.put, List.setIfInBounds_toArray, List.set_cons_zero, List.set_cons_succ])
        | (refine wpGrowS_skip (by simp only [List.getElem?_toArray, List.getElem?_cons_succ, List.getElem?_cons_zero]; rfl) (by rfl) ?_
           simp only [Act.put, List.setIfInBounds_toArray, List.set_cons_zero, List.set_cons_succ]))
    refine wpGrowS_call (by simp only [List.getElem?_toArray, List.getElem?_cons_succ, List.getElem?_cons_zero]; rfl) (by rfl) fun K hK => ?_
    go_simp
    go_fit (HOV.out _)
    rintro e wn ⟨rfl, hbn⟩
    have hS : Below w.heap.size w wn ∧ RB wn w1.heap.size ⟨lb, rn⟩ ∧ RB wn w2.heap.size ⟨lb, ln⟩ ∧ RB wn (w2.heap.size + 1) ⟨gb, gn⟩ := ⟨beln (hS.1) hbn, RB.next (hS.2.1) hbn, RB.next (hS.2.2.1) hbn, RB.next (hS.2.2.2) hbn⟩
    go_simp
    refine hK _ _ hS ?_
    clear hK K
    try simp only [Act.put, List.setIfInBounds_toArray, List.set_cons_zero, List.set_cons_succ]
    iterate 5
      (first
        | (refine wpGrowS_float (v := ?_) (by simp only [List.getElem?_toArray, List.getElem?_cons_succ, List.getElem?_cons_zero]; rfl) (by rfl) ?_ ?_
           rotate_left
           · (intro W hW; obtain ⟨f1a, f1b, _, _⟩ := RB.facts (hW.2.1); obtain ⟨f2a, f2b, _, _⟩ := RB.facts (hW.2.2.1); obtain ⟨f3a, f3b, _, _⟩ := RB.facts (hW.2.2.2); go_simp; try with_reducible rfl)
           simp only [Act.put, List.setIfInBounds_toArray, List.set_cons_zero, List.set_cons_succ])
        | (refine wpGrowS_skip (by simp only [List.getElem?_toArray, List.getElem?_cons_succ, List.getElem?_cons_zero]; rfl) (by rfl) ?_
           simp only [Act.put, List.setIfInBounds_toArray, List.set_cons_zero, List.set_cons_succ]))
    refine wpGrowS_call (by simp only [List.getElem?_toArray, List.getElem?_cons_succ, List.getElem?_cons_zero]; rfl) (by rfl) fun K hK => ?_
    go_simp
    go_fit (HC1.out _)
    rintro e wn ⟨rfl, hbn⟩
    have hS : Below w.heap.size w wn ∧ RB wn w1.heap.size ⟨lb, rn⟩ ∧ RB wn w2.heap.size ⟨lb, ln⟩ ∧ RB wn (w2.heap.size + 1) ⟨gb, gn⟩ := ⟨beln (hS.1) hbn, RB.next (hS.2.1) hbn, RB.next (hS.2.2.1) hbn, RB.next (hS.2.2.2) hbn⟩
    go_simp
    refine hK _ _ hS ?_
    clear hK K
    try simp only [Act.put, List.setIfInBounds_toArray, List.set_cons_zero, List.set_cons_succ]
    iterate 4
      (first
        | (refine wpGrowS_float (v := ?_) (by simp only [List.getElem?_toArray, List.getElem?_cons_succ, List.getElem?_cons_zero]; rfl) (by rfl) ?_ ?_
           rotate_left
           · (intro W hW; obtain ⟨f1a, f1b, _, _⟩ := RB.facts (hW.2.1); obtain ⟨f2a, f2b, _, _⟩ := RB.facts (hW.2.2.1); obtain ⟨f3a, f3b, _, _⟩ := RB.facts (hW.2.2.2); go_simp; try with_reducible rfl)
           simp only [Act.put, List.setIfInBounds_toArray, List.set_cons_zero, List.set_cons_succ])
        | (refine wpGrowS_skip (by simp only [List.getElem?_toArray, List.getElem?_cons_succ, List.getElem?_cons_zero]; rfl) (by rfl) ?_
           simp only [Act.put, List.setIfInBounds_toArray, List.set_cons_zero, List.set_cons_succ]))
    refine wpGrowS_call (by simp only [List.getElem?_toArray, List.getElem?_cons_succ, List.getElem?_cons_zero]; rfl) (by rfl) fun K hK => ?_
    go_simp
    go_fit (HC2.out _)
    rintro e wn ⟨rfl, hbn⟩
    have hS : Below w.heap.size w wn ∧ RB wn w1.heap.size ⟨lb, rn⟩ ∧ RB wn w2.heap.size ⟨lb, ln⟩ ∧ RB wn (w2.heap.size + 1) ⟨gb, gn⟩ := ⟨beln (hS.1) hbn, RB.next (hS.2.1) hbn, RB.next (hS.2.2.1) hbn, RB.next (hS.2.2.2) hbn⟩
    go_simp
    refine hK _ _ hS ?_
    clear hK K
    try simp only [Act.put, List.setIfInBounds_toArray, List.set_cons_zero, List.set_cons_succ]
    iterate 9
      (first
        | (refine wpGrowS_float (v := ?_) (by simp only [List.getElem?_toArray, List.getElem?_cons_succ, List.getElem?_cons_zero]; rfl) (by rfl) ?_ ?_
           rotate_left
           · (intro W hW; obtain ⟨f1a, f1b, _, _⟩ := RB.facts (hW.2.1); obtain ⟨f2a, f2b, _, _⟩ := RB.facts (hW.2.2.1); obtain ⟨f3a, f3b, _, _⟩ := RB.facts (hW.2.2.2); go_simp; try with_reducible rfl)
           simp only [Act.put, List.setIfInBounds_toArray, List.set_cons_zero, List.set_cons_succ])
        | (refine wpGrowS_skip (by simp only [List.getElem?_toArray, List.getElem?_cons_succ, List.getElem?_cons_zero]; rfl) (by rfl) ?_
           simp only [Act.put, List.setIfInBounds_toArray, List.set_cons_zero, List.set_cons_succ]))
    refine wpGrowS_call (by simp only [List.getElem?_toArray, List.getElem?_cons_succ, List.getElem?_cons_zero]; rfl) (by rfl) fun K hK => ?_
    go_simp
    have hbn : Below wn.heap.size wn (wn.alloc (.cells #[.int .i64 lb, .int .i64 ln, .int .i64 gb, .int .i64 gn, .int .i64 lb, .int .i64 rn] 23)) := (Below.refl _ wn).alloc (Nat.le_refl _) _
    have hS : Below w.heap.size w (wn.alloc (.cells #[.int .i64 lb, .int .i64 ln, .int .i64 gb, .int .i64 gn, .int .i64 lb, .int .i64 rn] 23)) ∧ RB (wn.alloc (.cells #[.int .i64 lb, .int .i64 ln, .int .i64 gb, .int .i64 gn, .int .i64 lb, .int .i64 rn] 23)) w1.heap.size ⟨lb, rn⟩ ∧ RB (wn.alloc (.cells #[.int .i64 lb, .int .i64 ln, .int .i64 gb, .int .i64 gn, .int .i64 lb, .int .i64 rn] 23)) w2.heap.size ⟨lb, ln⟩ ∧ RB (wn.alloc (.cells #[.int .i64 lb, .int .i64 ln, .int .i64 gb, .int .i64 gn, .int .i64 lb, .int .i64 rn] 23)) (w2.heap.size + 1) ⟨gb, gn⟩ := ⟨beln (hS.1) hbn, RB.next (hS.2.1) hbn, RB.next (hS.2.2.1) hbn, RB.next (hS.2.2.2) hbn⟩
    have hlit := HLT.out wn
    refine hK _ _ hS ?_
    clear hK K
    try simp only [Act.put, List.setIfInBounds_toArray, List.set_cons_zero, List.set_cons_succ]
    refine wpGrowS_call (by simp only [List.getElem?_toArray, List.getElem?_cons_succ, List.getElem?_cons_zero]; rfl) (by rfl) fun K hK => ?_
    go_simp
    go_fit (HCV.out _ 3 _ hlit)
    rintro e wn ⟨rfl, hbn⟩
    have hS : Below w.heap.size w wn ∧ RB wn w1.heap.size ⟨lb, rn⟩ ∧ RB wn w2.heap.size ⟨lb, ln⟩ ∧ RB wn (w2.heap.size + 1) ⟨gb, gn⟩ := ⟨beln (hS.1) hbn, RB.next (hS.2.1) hbn, RB.next (hS.2.2.1) hbn, RB.next (hS.2.2.2) hbn⟩
    go_simp
    refine hK _ _ hS ?_
    clear hK K
    try simp only [Act.put, List.setIfInBounds_toArray, List.set_cons_zero, List.set_cons_succ]
    iterate 3
      (first
        | (refine wpGrowS_float (v := ?_) (by simp only [List.getElem?_toArray, List.getElem?_cons_succ, List.getElem?_cons_zero]; rfl) (by rfl) ?_ ?_
           rotate_left
           · (intro W hW; obtain ⟨f1a, f1b, _, _⟩ := RB.facts (hW.2.1); obtain ⟨f2a, f2b, _, _⟩ := RB.facts (hW.2.2.1); obtain ⟨f3a, f3b, _, _⟩ := RB.facts (hW.2.2.2); go_simp; try with_reducible rfl)
           simp only [Act.put, List.setIfInBounds_toArray, List.set_cons_zero, List.set_cons_succ])
        | (refine wpGrowS_skip (by simp only [List.getElem?_toArray, List.getElem?_cons_succ, List.getElem?_cons_zero]; rfl) (by rfl) ?_
           simp only [Act.put, List.setIfInBounds_toArray, List.set_cons_zero, List.set_cons_succ]))
    refine wpGrowS_call (by simp only [List.getElem?_toArray, List.getElem?_cons_succ, List.getElem?_cons_zero]; rfl) (by rfl) fun K hK => ?_
    go_simp
    go_fit (HAW.out _ (hS.1))
    rintro e wn ⟨rfl, hbn⟩
    have hS : Below w.heap.size w wn ∧ RB wn w1.heap.size ⟨lb, rn⟩ ∧ RB wn w2.heap.size ⟨lb, ln⟩ ∧ RB wn (w2.heap.size + 1) ⟨gb, gn⟩ := ⟨beln (hS.1) hbn, RB.next (hS.2.1) hbn, RB.next (hS.2.2.1) hbn, RB.next (hS.2.2.2) hbn⟩
    go_simp
    refine hK _ _ hS ?_
    clear hK K
    try simp only [Act.put, List.setIfInBounds_toArray, List.set_cons_zero, List.set_cons_succ]
    iterate 2
      (first
        | (refine wpGrowS_float (v := ?_) (by simp only [List.getElem?_toArray, List.getElem?_cons_succ, List.getElem?_cons_zero]; rfl) (by rfl) ?_ ?_
           rotate_left
           · (intro W hW; obtain ⟨f1a, f1b, _, _⟩ := RB.facts (hW.2.1); obtain ⟨f2a, f2b, _, _⟩ := RB.facts (hW.2.2.1); obtain ⟨f3a, f3b, _, _⟩ := RB.facts (hW.2.2.2); go_simp; try with_reducible rfl)
           simp only [Act.put, List.setIfInBounds_toArray, List.set_cons_zero, List.set_cons_succ])
        | (refine wpGrowS_skip (by simp only [List.getElem?_toArray, List.getElem?_cons_succ, List.getElem?_cons_zero]; rfl) (by rfl) ?_
           simp only [Act.put, List.setIfInBounds_toArray, List.set_cons_zero, List.set_cons_succ]))
    refine wpGrowS_nil ?_
    have HEND := Lib.hid hS.1
    clear hS hbn
    go_wp2
    go_ret
    exact ⟨rfl, HEND.out⟩
end Go.Proofs.YtlndafkmihdbmaaDoor
