/-
  The law RangeNested returns true.
  Conditions: none.
-/
import Derived.Test.YtlndafkmihdbmaaDoorLrc
namespace Go.Proofs.YtlndafkmihdbmaaDoor
open Go.RowKit

theorem nested (x y : GR) : ovR x y = (conR x y || conR y x) := by
  rw [Bool.eq_iff_iff, Bool.or_eq_true]
  constructor
  · intro h
    rcases Int.le_total x.bits y.bits with h1 | h1
    · exact .inr (nest h h1)
    · exact .inl (nest (by rw [ov_comm]; exact h) h1)
  · rintro (h | h)
    · exact con_ov h
    · rw [ov_comm]; exact con_ov h
theorem both_eq {x y : GR} (h1 : conR x y = true) (h2 : conR y x = true) : x = y := con_eq h1 (by have := con_bits h1; have := con_bits h2; omega)
set_option maxRecDepth 20000 in
set_option maxHeartbeats 8000000 in
theorem lnested (a b c d : Int) (w : World) (hG : T10 w) : Calls Tryd.prog 7 #[.int .i64 a, .int .i64 b, .int .i64 c, .int .i64 d] w fun e w' => e = .returned (.bool true) ∧ Below w.heap.size w w' := by
  have HBL := Lib.hid fun a b W => mBlock_any a b W
  have HAW := Lib.hid fun W hb => awake10 W (T10.next hG hb)
  have HV := Lib.hid fun r W => pValid_any r W
  have HO := Lib.hid fun a b W => pOv_any a b W
  have HC := Lib.hid fun a b W => pCon_any a b W
  go_enter Tryd.func7, Tryd.ntmps7
  go_wp2_with fail
  go_fit (HBL.out a b _)
  rintro e w1 ⟨⟨xb, xn⟩, hvx, _, _, rfl, hb1⟩
  have HB1 := Lib.hid (belt hb1 (.cells #[.int .i64 xb, .int .i64 xn] 23))
  have HVX := Lib.hid hvx
  clear hb1 hvx
  simp only [GR.val]
  go_wp2_with fail
  go_fit (HBL.out c d _)
  rintro e w2 ⟨⟨yb, yn⟩, hvy, _, _, rfl, hb2⟩
  have HX : Hid (RB (w2.alloc (.cells #[.int .i64 yb, .int .i64 yn] 23)) w1.heap.size ⟨xb, xn⟩) := Lib.hid (RB.next (RB.new w1 ⟨xb, xn⟩) (belt hb2 (.cells #[.int .i64 yb, .int .i64 yn] 23)))
  have HY : Hid (RB (w2.alloc (.cells #[.int .i64 yb, .int .i64 yn] 23)) w2.heap.size ⟨yb, yn⟩) := Lib.hid (RB.new w2 ⟨yb, yn⟩)
  have HB := Lib.hid (belt (beln HB1.out hb2) (.cells #[.int .i64 yb, .int .i64 yn] 23))
  have HVx := Lib.hid (HV.out ⟨xb, xn⟩)
  have HVy := Lib.hid (HV.out ⟨yb, yn⟩)
  have HOxx := Lib.hid (HO.out ⟨xb, xn⟩ ⟨xb, xn⟩)
  have HOxy := Lib.hid (HO.out ⟨xb, xn⟩ ⟨yb, yn⟩)
  have HOyx := Lib.hid (HO.out ⟨yb, yn⟩ ⟨xb, xn⟩)
  have HCxy := Lib.hid (HC.out ⟨xb, xn⟩ ⟨yb, yn⟩)
  have HCyx := Lib.hid (HC.out ⟨yb, yn⟩ ⟨xb, xn⟩)
  rw [vR_iff.2 HVX.out] at HVx
  rw [vR_iff.2 hvy] at HVy
  rw [ov_self HVX.out] at HOxx
  rw [ov_comm] at HOyx
  rw [nested] at HOxy HOyx
  have HE := Lib.hid fun h1 h2 => both_eq (x := ⟨xb, xn⟩) (y := ⟨yb, yn⟩) h1 h2
  have HRX := Lib.hid (con_refl HVX.out)
  have HRY := Lib.hid (con_refl hvy)
  clear hb2 hvy HBL HV HO HC
  simp only [GR.val] at *
  generalize hw3 : (w2.alloc (.cells #[.int .i64 yb, .int .i64 yn] 23)) = w3 at *
  generalize hcxy : conR ⟨xb, xn⟩ ⟨yb, yn⟩ = cxy at *
  generalize hcyx : conR ⟨yb, yn⟩ ⟨xb, xn⟩ = cyx at *
  have hne : (cxy && cyx) = false → ¬ (xb = yb ∧ xn = yn) := by
    rintro h ⟨rfl, rfl⟩
    rw [← hcxy, ← hcyx, HRX.out] at h
    cases h
  have HNE := Lib.hid hne
  clear hne HRX HRY
  rcases cxy with _ | _ <;> rcases cyx with _ | _ <;> simp only [Bool.or_true, Bool.or_false] at HOxy HOyx
  · have hne := HNE.out rfl
    clear hcxy hcyx HNE HE
    by_cases he : xb = yb
    · subst he
      have hne2 : ¬ xn = yn := fun e => hne ⟨rfl, e⟩
      clear hne
      go_wp2_with fail
      go_upto_region 3 with fail
      have hS : Below w.heap.size w w3.drew ∧ RB w3.drew w1.heap.size ⟨xb, xn⟩ ∧ RB w3.drew w2.heap.size ⟨xb, yn⟩ := ⟨HB.out.drew, HX.out, HY.out⟩
      refine wp_region_growS (S := fun W => Below w.heap.size w W ∧ RB W w1.heap.size ⟨xb, xn⟩ ∧ RB W w2.heap.size ⟨xb, yn⟩) [(0, true), (1, false), (2, true), (3, true), (4, true), (5, false), (6, true), (7, true), (8, true), (9, true), (10, true), (11, false), (12, true), (13, true), (14, true), (15, true), (16, true), (18, true), (19, true), (17, false), (20, false), (21, true), (22, true)] (by kernel_rfl) (by kernel_rfl) (by kernel_rfl) (by kernel_rfl) (by intro c a d v w h; cases d <;> exact h) hS ?_
      iterate 1
        (first
          | (refine wpGrowS_float (v := ?_) (by simp only [List.getElem?_toArray, List.getElem?_cons_zero]; rfl) (by rfl) ?_ ?_
             rotate_left
             · (intro W hW; obtain ⟨f1a, f1b, _, _⟩ := RB.facts (hW.2.1); obtain ⟨f2a, f2b, _, _⟩ := RB.facts (hW.2.2); go_simp; try with_reducible rfl)
             simp only [Act.put, List.setIfInBounds_toArray, List.set_cons_zero, List.set_cons_succ])
          | (refine wpGrowS_skip (by simp only [List.getElem?_toArray, List.getElem?_cons_zero]; rfl) (by rfl) ?_
             simp only [Act.put, List.setIfInBounds_toArray, List.set_cons_zero, List.set_cons_succ]))
      refine wpGrowS_call (by simp only [List.getElem?_toArray, List.getElem?_cons_succ, List.getElem?_cons_zero]; rfl) (by rfl) fun K hK => ?_
      go_simp
      go_fit (HVx.out _)
      rintro e wn ⟨rfl, hbn⟩
      have hS : Below w.heap.size w wn ∧ RB wn w1.heap.size ⟨xb, xn⟩ ∧ RB wn w2.heap.size ⟨xb, yn⟩ := ⟨beln (hS.1) hbn, RB.next (hS.2.1) hbn, RB.next (hS.2.2) hbn⟩
      go_simp
      refine hK _ _ hS ?_
      clear hK K
      try simp only [Act.put, List.setIfInBounds_toArray, List.set_cons_zero, List.set_cons_succ]
      iterate 3
        (first
          | (refine wpGrowS_float (v := ?_) (by simp only [List.getElem?_toArray, List.getElem?_cons_succ, List.getElem?_cons_zero]; rfl) (by rfl) ?_ ?_
             rotate_left
             · (intro W hW; obtain ⟨f1a, f1b, _, _⟩ := RB.facts (hW.2.1); obtain ⟨f2a, f2b, _, _⟩ := RB.facts (hW.2.2); go_simp; try with_reducible rfl)
             simp only [Act.put, List.setIfInBounds_toArray, List.set_cons_zero, List.set_cons_succ])
          | (refine wpGrowS_skip (by simp only [List.getElem?_toArray, List.getElem?_cons_succ, List.getElem?_cons_zero]; rfl) (by rfl) ?_
             simp only [Act.put, List.setIfInBounds_toArray, List.set_cons_zero, List.set_cons_succ]))
      refine wpGrowS_call (by simp only [List.getElem?_toArray, List.getElem?_cons_succ, List.getElem?_cons_zero]; rfl) (by rfl) fun K hK => ?_
      go_simp
      go_fit (HVy.out _)
      rintro e wn ⟨rfl, hbn⟩
      have hS : Below w.heap.size w wn ∧ RB wn w1.heap.size ⟨xb, xn⟩ ∧ RB wn w2.heap.size ⟨xb, yn⟩ := ⟨beln (hS.1) hbn, RB.next (hS.2.1) hbn, RB.next (hS.2.2) hbn⟩
      go_simp
      refine hK _ _ hS ?_
      clear hK K
      try simp only [Act.put, List.setIfInBounds_toArray, List.set_cons_zero, List.set_cons_succ]
      iterate 5
        (first
          | (refine wpGrowS_float (v := ?_) (by simp only [List.getElem?_toArray, List.getElem?_cons_succ, List.getElem?_cons_zero]; rfl) (by rfl) ?_ ?_
             rotate_left
             · (intro W hW; obtain ⟨f1a, f1b, _, _⟩ := RB.facts (hW.2.1); obtain ⟨f2a, f2b, _, _⟩ := RB.facts (hW.2.2); go_simp; try with_reducible rfl)
             simp only [Act.put, List.setIfInBounds_toArray, List.set_cons_zero, List.set_cons_succ])
          | (refine wpGrowS_skip (by simp only [List.getElem?_toArray, List.getElem?_cons_succ, List.getElem?_cons_zero]; rfl) (by rfl) ?_
             simp only [Act.put, List.setIfInBounds_toArray, List.set_cons_zero, List.set_cons_succ]))
      refine wpGrowS_call (by simp only [List.getElem?_toArray, List.getElem?_cons_succ, List.getElem?_cons_zero]; rfl) (by rfl) fun K hK => ?_
      go_simp
      go_fit (HOxx.out _)
      rintro e wn ⟨rfl, hbn⟩
      have hS : Below w.heap.size w wn ∧ RB wn w1.heap.size ⟨xb, xn⟩ ∧ RB wn w2.heap.size ⟨xb, yn⟩ := ⟨beln (hS.1) hbn, RB.next (hS.2.1) hbn, RB.next (hS.2.2) hbn⟩
      go_simp
      refine hK _ _ hS ?_
      clear hK K
      try simp only [Act.put, List.setIfInBounds_toArray, List.set_cons_zero, List.set_cons_succ]
      iterate 7
        (first
          | (refine wpGrowS_float (v := ?_) (by simp only [List.getElem?_toArray, List.getElem?_cons_succ, List.getElem?_cons_zero]; rfl) (by rfl) ?_ ?_
             rotate_left
             · (intro W hW; obtain ⟨f1a, f1b, _, _⟩ := RB.facts (hW.2.1); obtain ⟨f2a, f2b, _, _⟩ := RB.facts (hW.2.2); go_simp; try with_reducible rfl)
             simp only [Act.put, List.setIfInBounds_toArray, List.set_cons_zero, List.set_cons_succ])
          | (refine wpGrowS_skip (by simp only [List.getElem?_toArray, List.getElem?_cons_succ, List.getElem?_cons_zero]; rfl) (by rfl) ?_
             simp only [Act.put, List.setIfInBounds_toArray, List.set_cons_zero, List.set_cons_succ]))
      refine wpGrowS_call (by simp only [List.getElem?_toArray, List.getElem?_cons_succ, List.getElem?_cons_zero]; rfl) (by rfl) fun K hK => ?_
      go_simp
      go_fit (HOxy.out _)
      rintro e wn ⟨rfl, hbn⟩
      have hS : Below w.heap.size w wn ∧ RB wn w1.heap.size ⟨xb, xn⟩ ∧ RB wn w2.heap.size ⟨xb, yn⟩ := ⟨beln (hS.1) hbn, RB.next (hS.2.1) hbn, RB.next (hS.2.2) hbn⟩
      go_simp
      refine hK _ _ hS ?_
      clear hK K
      try simp only [Act.put, List.setIfInBounds_toArray, List.set_cons_zero, List.set_cons_succ]
      refine wpGrowS_call (by simp only [List.getElem?_toArray, List.getElem?_cons_succ, List.getElem?_cons_zero]; rfl) (by rfl) fun K hK => ?_
      go_simp
      go_fit (HOyx.out _)
      rintro e wn ⟨rfl, hbn⟩
      have hS : Below w.heap.size w wn ∧ RB wn w1.heap.size ⟨xb, xn⟩ ∧ RB wn w2.heap.size ⟨xb, yn⟩ := ⟨beln (hS.1) hbn, RB.next (hS.2.1) hbn, RB.next (hS.2.2) hbn⟩
      go_simp
      refine hK _ _ hS ?_
      clear hK K
      try simp only [Act.put, List.setIfInBounds_toArray, List.set_cons_zero, List.set_cons_succ]
      iterate 2
        (first
          | (refine wpGrowS_float (v := ?_) (by simp only [List.getElem?_toArray, List.getElem?_cons_succ, List.getElem?_cons_zero]; rfl) (by rfl) ?_ ?_
             rotate_left
             · (intro W hW; obtain ⟨f1a, f1b, _, _⟩ := RB.facts (hW.2.1); obtain ⟨f2a, f2b, _, _⟩ := RB.facts (hW.2.2); go_simp; try with_reducible rfl)
             simp only [Act.put, List.setIfInBounds_toArray, List.set_cons_zero, List.set_cons_succ])
          | (refine wpGrowS_skip (by simp only [List.getElem?_toArray, List.getElem?_cons_succ, List.getElem?_cons_zero]; rfl) (by rfl) ?_
             simp only [Act.put, List.setIfInBounds_toArray, List.set_cons_zero, List.set_cons_succ]))
      refine wpGrowS_nil ?_
      have HS5 := Lib.hid hS
      clear hS hbn
      generalize wn = w5 at *
      go_upto_region 5 with fail
      have hS : Below w.heap.size w w5.drew ∧ RB w5.drew w1.heap.size ⟨xb, xn⟩ ∧ RB w5.drew w2.heap.size ⟨xb, yn⟩ := ⟨beln (HS5.out.1) (Below.refl _ w5).drew, RB.next (HS5.out.2.1) (Below.refl _ w5).drew, RB.next (HS5.out.2.2) (Below.refl _ w5).drew⟩
      refine wp_region_growS (S := fun W => Below w.heap.size w W ∧ RB W w1.heap.size ⟨xb, xn⟩ ∧ RB W w2.heap.size ⟨xb, yn⟩) [(0, true), (1, true), (3, true), (4, true), (2, false), (5, false), (6, true), (7, true), (8, true), (9, false), (10, true), (11, true)] (by kernel_rfl) (by kernel_rfl) (by kernel_rfl) (by kernel_rfl) (by intro c a d v w h; cases d <;> exact h) hS ?_
      iterate 4
        (first
          | (refine wpGrowS_float (v := ?_) (by simp only [List.getElem?_toArray, List.getElem?_cons_succ, List.getElem?_cons_zero]; rfl) (by rfl) ?_ ?_
             rotate_left
             · (intro W hW; obtain ⟨f1a, f1b, _, _⟩ := RB.facts (hW.2.1); obtain ⟨f2a, f2b, _, _⟩ := RB.facts (hW.2.2); go_simp; try with_reducible rfl)
             simp only [Act.put, List.setIfInBounds_toArray, List.set_cons_zero, List.set_cons_succ])
          | (refine wpGrowS_skip (by simp only [List.getElem?_toArray, List.getElem?_cons_succ, List.getElem?_cons_zero]; rfl) (by rfl) ?_
             simp only [Act.put, List.setIfInBounds_toArray, List.set_cons_zero, List.set_cons_succ]))
      refine wpGrowS_call (by simp only [List.getElem?_toArray, List.getElem?_cons_succ, List.getElem?_cons_zero]; rfl) (by rfl) fun K hK => ?_
      go_simp
      go_fit (HOxy.out _)
      rintro e wn ⟨rfl, hbn⟩
      have hS : Below w.heap.size w wn ∧ RB wn w1.heap.size ⟨xb, xn⟩ ∧ RB wn w2.heap.size ⟨xb, yn⟩ := ⟨beln (hS.1) hbn, RB.next (hS.2.1) hbn, RB.next (hS.2.2) hbn⟩
      go_simp
      refine hK _ _ hS ?_
      clear hK K
      try simp only [Act.put, List.setIfInBounds_toArray, List.set_cons_zero, List.set_cons_succ]
      refine wpGrowS_call (by simp only [List.getElem?_toArray, List.getElem?_cons_succ, List.getElem?_cons_zero]; rfl) (by rfl) fun K hK => ?_
      go_simp
      go_fit (HCxy.out _)
      rintro e wn ⟨rfl, hbn⟩
      have hS : Below w.heap.size w wn ∧ RB wn w1.heap.size ⟨xb, xn⟩ ∧ RB wn w2.heap.size ⟨xb, yn⟩ := ⟨beln (hS.1) hbn, RB.next (hS.2.1) hbn, RB.next (hS.2.2) hbn⟩
      go_simp
      refine hK _ _ hS ?_
      clear hK K
      try simp only [Act.put, List.setIfInBounds_toArray, List.set_cons_zero, List.set_cons_succ]
      iterate 3
        (first
          | (refine wpGrowS_float (v := ?_) (by simp only [List.getElem?_toArray, List.getElem?_cons_succ, List.getElem?_cons_zero]; rfl) (by rfl) ?_ ?_
             rotate_left
             · (intro W hW; obtain ⟨f1a, f1b, _, _⟩ := RB.facts (hW.2.1); obtain ⟨f2a, f2b, _, _⟩ := RB.facts (hW.2.2); go_simp; try with_reducible rfl)
             simp only [Act.put, List.setIfInBounds_toArray, List.set_cons_zero, List.set_cons_succ])
          | (refine wpGrowS_skip (by simp only [List.getElem?_toArray, List.getElem?_cons_succ, List.getElem?_cons_zero]; rfl) (by rfl) ?_
             simp only [Act.put, List.setIfInBounds_toArray, List.set_cons_zero, List.set_cons_succ]))
      refine wpGrowS_call (by simp only [List.getElem?_toArray, List.getElem?_cons_succ, List.getElem?_cons_zero]; rfl) (by rfl) fun K hK => ?_
      go_simp
      go_fit (HCyx.out _)
      rintro e wn ⟨rfl, hbn⟩
      have hS : Below w.heap.size w wn ∧ RB wn w1.heap.size ⟨xb, xn⟩ ∧ RB wn w2.heap.size ⟨xb, yn⟩ := ⟨beln (hS.1) hbn, RB.next (hS.2.1) hbn, RB.next (hS.2.2) hbn⟩
      go_simp
      refine hK _ _ hS ?_
      clear hK K
      try simp only [Act.put, List.setIfInBounds_toArray, List.set_cons_zero, List.set_cons_succ]
      iterate 2
        (first
          | (refine wpGrowS_float (v := ?_) (by simp only [List.getElem?_toArray, List.getElem?_cons_succ, List.getElem?_cons_zero]; rfl) (by rfl) ?_ ?_
             rotate_left
             · (intro W hW; obtain ⟨f1a, f1b, _, _⟩ := RB.facts (hW.2.1); obtain ⟨f2a, f2b, _, _⟩ := RB.facts (hW.2.2); go_simp; try with_reducible rfl)
             simp only [Act.put, List.setIfInBounds_toArray, List.set_cons_zero, List.set_cons_succ])
          | (refine wpGrowS_skip (by simp only [List.getElem?_toArray, List.getElem?_cons_succ, List.getElem?_cons_zero]; rfl) (by rfl) ?_
             simp only [Act.put, List.setIfInBounds_toArray, List.set_cons_zero, List.set_cons_succ]))
      refine wpGrowS_nil ?_
      have HS7 := Lib.hid hS
      clear hS HS5 hbn
      generalize wn = w7 at *
      go_upto_region 7 with fail
      have hS : Below w.heap.size w w7.drew ∧ RB w7.drew w1.heap.size ⟨xb, xn⟩ ∧ RB w7.drew w2.heap.size ⟨xb, yn⟩ := ⟨beln (HS7.out.1) (Below.refl _ w7).drew, RB.next (HS7.out.2.1) (Below.refl _ w7).drew, RB.next (HS7.out.2.2) (Below.refl _ w7).drew⟩
      refine wp_region_growS (S := fun W => Below w.heap.size w W ∧ RB W w1.heap.size ⟨xb, xn⟩ ∧ RB W w2.heap.size ⟨xb, yn⟩) [(0, true), (1, true), (8, true), (9, true), (10, true), (2, false), (3, true), (4, true), (5, true), (6, false), (7, true), (11, true), (12, true), (13, false), (14, true), (15, true)] (by kernel_rfl) (by kernel_rfl) (by kernel_rfl) (by kernel_rfl) (by intro c a d v w h; cases d <;> exact h) hS ?_
      iterate 5
        (first
          | (refine wpGrowS_float (v := ?_) (by simp only [List.getElem?_toArray, List.getElem?_cons_succ, List.getElem?_cons_zero]; rfl) (by rfl) ?_ ?_
             rotate_left
             · (intro W hW; obtain ⟨f1a, f1b, _, _⟩ := RB.facts (hW.2.1); obtain ⟨f2a, f2b, _, _⟩ := RB.facts (hW.2.2); go_simp; try with_reducible rfl)
             simp only [Act.put, List.setIfInBounds_toArray, List.set_cons_zero, List.set_cons_succ])
          | (refine wpGrowS_skip (by simp only [List.getElem?_toArray, List.getElem?_cons_succ, List.getElem?_cons_zero]; rfl) (by rfl) ?_
             simp only [Act.put, List.setIfInBounds_toArray, List.set_cons_zero, List.set_cons_succ]))
      refine wpGrowS_call (by simp only [List.getElem?_toArray, List.getElem?_cons_succ, List.getElem?_cons_zero]; rfl) (by rfl) fun K hK => ?_
      go_simp
      go_fit (HCxy.out _)
      rintro e wn ⟨rfl, hbn⟩
      have hS : Below w.heap.size w wn ∧ RB wn w1.heap.size ⟨xb, xn⟩ ∧ RB wn w2.heap.size ⟨xb, yn⟩ := ⟨beln (hS.1) hbn, RB.next (hS.2.1) hbn, RB.next (hS.2.2) hbn⟩
      go_simp
      refine hK _ _ hS ?_
      clear hK K
      try simp only [Act.put, List.setIfInBounds_toArray, List.set_cons_zero, List.set_cons_succ]
      iterate 3
        (first
          | (refine wpGrowS_float (v := ?_) (by simp only [List.getElem?_toArray, List.getElem?_cons_succ, List.getElem?_cons_zero]; rfl) (by rfl) ?_ ?_
             rotate_left
             · (intro W hW; obtain ⟨f1a, f1b, _, _⟩ := RB.facts (hW.2.1); obtain ⟨f2a, f2b, _, _⟩ := RB.facts (hW.2.2); go_simp; try with_reducible rfl)
             simp only [Act.put, List.setIfInBounds_toArray, List.set_cons_zero, List.set_cons_succ])
          | (refine wpGrowS_skip (by simp only [List.getElem?_toArray, List.getElem?_cons_succ, List.getElem?_cons_zero]; rfl) (by rfl) ?_
             simp only [Act.put, List.setIfInBounds_toArray, List.set_cons_zero, List.set_cons_succ]))
      refine wpGrowS_pass hS (by simp only [List.getElem?_toArray, List.getElem?_cons_succ, List.getElem?_cons_zero]; rfl) (by rfl) ?_
      try simp only [Act.put, List.setIfInBounds_toArray, List.set_cons_zero, List.set_cons_succ]
      iterate 3
        (first
          | (refine wpGrowS_float (v := ?_) (by simp only [List.getElem?_toArray, List.getElem?_cons_succ, List.getElem?_cons_zero]; rfl) (by rfl) ?_ ?_
             rotate_left
             · (intro W hW; obtain ⟨f1a, f1b, _, _⟩ := RB.facts (hW.2.1); obtain ⟨f2a, f2b, _, _⟩ := RB.facts (hW.2.2); go_simp; try with_reducible rfl)
             simp only [Act.put, List.setIfInBounds_toArray, List.set_cons_zero, List.set_cons_succ])
          | (refine wpGrowS_skip (by simp only [List.getElem?_toArray, List.getElem?_cons_succ, List.getElem?_cons_zero]; rfl) (by rfl) ?_
             simp only [Act.put, List.setIfInBounds_toArray, List.set_cons_zero, List.set_cons_succ]))
      refine wpGrowS_call (by simp only [List.getElem?_toArray, List.getElem?_cons_succ, List.getElem?_cons_zero]; rfl) (by rfl) fun K hK => ?_
      go_simp
      go_fit (HAW.out _ (hS.1))
      rintro e wn ⟨rfl, hbn⟩
      have hS : Below w.heap.size w wn ∧ RB wn w1.heap.size ⟨xb, xn⟩ ∧ RB wn w2.heap.size ⟨xb, yn⟩ := ⟨beln (hS.1) hbn, RB.next (hS.2.1) hbn, RB.next (hS.2.2) hbn⟩
      go_simp
      refine hK _ _ hS ?_
      clear hK K
      try simp only [Act.put, List.setIfInBounds_toArray, List.set_cons_zero, List.set_cons_succ]
      iterate 2
        (first
          | (refine wpGrowS_float (v := ?_) (by simp only [List.getElem?_toArray, List.getElem?_cons_succ, List.getElem?_cons_zero]; rfl) (by rfl) ?_ ?_
             rotate_left
             · (intro W hW; obtain ⟨f1a, f1b, _, _⟩ := RB.facts (hW.2.1); obtain ⟨f2a, f2b, _, _⟩ := RB.facts (hW.2.2); go_simp; try with_reducible rfl)
             simp only [Act.put, List.setIfInBounds_toArray, List.set_cons_zero, List.set_cons_succ])
          | (refine wpGrowS_skip (by simp only [List.getElem?_toArray, List.getElem?_cons_succ, List.getElem?_cons_zero]; rfl) (by rfl) ?_
             simp only [Act.put, List.setIfInBounds_toArray, List.set_cons_zero, List.set_cons_succ]))
      refine wpGrowS_nil ?_
      have HEND := Lib.hid hS.1
      clear hS hbn HS7
      go_wp2
      go_ret
      exact ⟨rfl, HEND.out⟩
    · clear hne
      go_wp2_with fail
      go_upto_region 3 with fail
      have hS : Below w.heap.size w w3.drew ∧ RB w3.drew w1.heap.size ⟨xb, xn⟩ ∧ RB w3.drew w2.heap.size ⟨yb, yn⟩ := ⟨HB.out.drew, HX.out, HY.out⟩
      refine wp_region_growS (S := fun W => Below w.heap.size w W ∧ RB W w1.heap.size ⟨xb, xn⟩ ∧ RB W w2.heap.size ⟨yb, yn⟩) [(0, true), (1, false), (2, true), (3, true), (4, true), (5, false), (6, true), (7, true), (8, true), (9, true), (10, true), (11, false), (12, true), (13, true), (14, true), (15, true), (16, true), (18, true), (19, true), (17, false), (20, false), (21, true), (22, true)] (by kernel_rfl) (by kernel_rfl) (by kernel_rfl) (by kernel_rfl) (by intro c a d v w h; cases d <;> exact h) hS ?_
      iterate 1
        (first
          | (refine wpGrowS_float (v := ?_) (by simp only [List.getElem?_toArray, List.getElem?_cons_zero]; rfl) (by rfl) ?_ ?_
             rotate_left
             · (intro W hW; obtain ⟨f1a, f1b, _, _⟩ := RB.facts (hW.2.1); obtain ⟨f2a, f2b, _, _⟩ := RB.facts (hW.2.2); go_simp; try with_reducible rfl)
             simp only [Act.put, List.setIfInBounds_toArray, List.set_cons_zero, List.set_cons_succ])
          | (refine wpGrowS_skip (by simp only [List.getElem?_toArray, List.getElem?_cons_zero]; rfl) (by rfl) ?_
             simp only [Act.put, List.setIfInBounds_toArray, List.set_cons_zero, List.set_cons_succ]))
      refine wpGrowS_call (by simp only [List.getElem?_toArray, List.getElem?_cons_succ, List.getElem?_cons_zero]; rfl) (by rfl) fun K hK => ?_
      go_simp
      go_fit (HVx.out _)
      rintro e wn ⟨rfl, hbn⟩
      have hS : Below w.heap.size w wn ∧ RB wn w1.heap.size ⟨xb, xn⟩ ∧ RB wn w2.heap.size ⟨yb, yn⟩ := ⟨beln (hS.1) hbn, RB.next (hS.2.1) hbn, RB.next (hS.2.2) hbn⟩
      go_simp
      refine hK _ _ hS ?_
      clear hK K
      try simp only [Act.put, List.setIfInBounds_toArray, List.set_cons_zero, List.set_cons_succ]
      iterate 3
        (first
          | (refine wpGrowS_float (v := ?_) (by simp only [List.getElem?_toArray, List.getElem?_cons_succ, List.getElem?_cons_zero]; rfl) (by rfl) ?_ ?_
             rotate_left
             · (intro W hW; obtain ⟨f1a, f1b, _, _⟩ := RB.facts (hW.2.1); obtain ⟨f2a, f2b, _, _⟩ := RB.facts (hW.2.2); go_simp; try with_reducible rfl)
             simp only [Act.put, List.setIfInBounds_toArray, List.set_cons_zero, List.set_cons_succ])
          | (refine wpGrowS_skip (by simp only [List.getElem?_toArray, List.getElem?_cons_succ, List.getElem?_cons_zero]; rfl) (by rfl) ?_
             simp only [Act.put, List.setIfInBounds_toArray, List.set_cons_zero, List.set_cons_succ]))
      refine wpGrowS_call (by simp only [List.getElem?_toArray, List.getElem?_cons_succ, List.getElem?_cons_zero]; rfl) (by rfl) fun K hK => ?_
      go_simp
      go_fit (HVy.out _)
      rintro e wn ⟨rfl, hbn⟩
      have hS : Below w.heap.size w wn ∧ RB wn w1.heap.size ⟨xb, xn⟩ ∧ RB wn w2.heap.size ⟨yb, yn⟩ := ⟨beln (hS.1) hbn, RB.next (hS.2.1) hbn, RB.next (hS.2.2) hbn⟩
      go_simp
      refine hK _ _ hS ?_
      clear hK K
      try simp only [Act.put, List.setIfInBounds_toArray, List.set_cons_zero, List.set_cons_succ]
      iterate 5
        (first
          | (refine wpGrowS_float (v := ?_) (by simp only [List.getElem?_toArray, List.getElem?_cons_succ, List.getElem?_cons_zero]; rfl) (by rfl) ?_ ?_
             rotate_left
             · (intro W hW; obtain ⟨f1a, f1b, _, _⟩ := RB.facts (hW.2.1); obtain ⟨f2a, f2b, _, _⟩ := RB.facts (hW.2.2); go_simp; try with_reducible rfl)
             simp only [Act.put, List.setIfInBounds_toArray, List.set_cons_zero, List.set_cons_succ])
          | (refine wpGrowS_skip (by simp only [List.getElem?_toArray, List.getElem?_cons_succ, List.getElem?_cons_zero]; rfl) (by rfl) ?_
             simp only [Act.put, List.setIfInBounds_toArray, List.set_cons_zero, List.set_cons_succ]))
      refine wpGrowS_call (by simp only [List.getElem?_toArray, List.getElem?_cons_succ, List.getElem?_cons_zero]; rfl) (by rfl) fun K hK => ?_
      go_simp
      go_fit (HOxx.out _)
      rintro e wn ⟨rfl, hbn⟩
      have hS : Below w.heap.size w wn ∧ RB wn w1.heap.size ⟨xb, xn⟩ ∧ RB wn w2.heap.size ⟨yb, yn⟩ := ⟨beln (hS.1) hbn, RB.next (hS.2.1) hbn, RB.next (hS.2.2) hbn⟩
      go_simp
      refine hK _ _ hS ?_
      clear hK K
      try simp only [Act.put, List.setIfInBounds_toArray, List.set_cons_zero, List.set_cons_succ]
      iterate 7
        (first
          | (refine wpGrowS_float (v := ?_) (by simp only [List.getElem?_toArray, List.getElem?_cons_succ, List.getElem?_cons_zero]; rfl) (by rfl) ?_ ?_
             rotate_left
             · (intro W hW; obtain ⟨f1a, f1b, _, _⟩ := RB.facts (hW.2.1); obtain ⟨f2a, f2b, _, _⟩ := RB.facts (hW.2.2); go_simp; try with_reducible rfl)
             simp only [Act.put, List.setIfInBounds_toArray, List.set_cons_zero, List.set_cons_succ])
          | (refine wpGrowS_skip (by simp only [List.getElem?_toArray, List.getElem?_cons_succ, List.getElem?_cons_zero]; rfl) (by rfl) ?_
             simp only [Act.put, List.setIfInBounds_toArray, List.set_cons_zero, List.set_cons_succ]))
      refine wpGrowS_call (by simp only [List.getElem?_toArray, List.getElem?_cons_succ, List.getElem?_cons_zero]; rfl) (by rfl) fun K hK => ?_
      go_simp
      go_fit (HOxy.out _)
      rintro e wn ⟨rfl, hbn⟩
      have hS : Below w.heap.size w wn ∧ RB wn w1.heap.size ⟨xb, xn⟩ ∧ RB wn w2.heap.size ⟨yb, yn⟩ := ⟨beln (hS.1) hbn, RB.next (hS.2.1) hbn, RB.next (hS.2.2) hbn⟩
      go_simp
      refine hK _ _ hS ?_
      clear hK K
      try simp only [Act.put, List.setIfInBounds_toArray, List.set_cons_zero, List.set_cons_succ]
      refine wpGrowS_call (by simp only [List.getElem?_toArray, List.getElem?_cons_succ, List.getElem?_cons_zero]; rfl) (by rfl) fun K hK => ?_
      go_simp
      go_fit (HOyx.out _)
      rintro e wn ⟨rfl, hbn⟩
      have hS : Below w.heap.size w wn ∧ RB wn w1.heap.size ⟨xb, xn⟩ ∧ RB wn w2.heap.size ⟨yb, yn⟩ := ⟨beln (hS.1) hbn, RB.next (hS.2.1) hbn, RB.next (hS.2.2) hbn⟩
      go_simp
      refine hK _ _ hS ?_
      clear hK K
      try simp only [Act.put, List.setIfInBounds_toArray, List.set_cons_zero, List.set_cons_succ]
      iterate 2
        (first
          | (refine wpGrowS_float (v := ?_) (by simp only [List.getElem?_toArray, List.getElem?_cons_succ, List.getElem?_cons_zero]; rfl) (by rfl) ?_ ?_
             rotate_left
             · (intro W hW; obtain ⟨f1a, f1b, _, _⟩ := RB.facts (hW.2.1); obtain ⟨f2a, f2b, _, _⟩ := RB.facts (hW.2.2); go_simp; try with_reducible rfl)
             simp only [Act.put, List.setIfInBounds_toArray, List.set_cons_zero, List.set_cons_succ])
          | (refine wpGrowS_skip (by simp only [List.getElem?_toArray, List.getElem?_cons_succ, List.getElem?_cons_zero]; rfl) (by rfl) ?_
             simp only [Act.put, List.setIfInBounds_toArray, List.set_cons_zero, List.set_cons_succ]))
      refine wpGrowS_nil ?_
      have HS5 := Lib.hid hS
      clear hS hbn
      generalize wn = w5 at *
      go_upto_region 5 with fail
      have hS : Below w.heap.size w w5.drew ∧ RB w5.drew w1.heap.size ⟨xb, xn⟩ ∧ RB w5.drew w2.heap.size ⟨yb, yn⟩ := ⟨beln (HS5.out.1) (Below.refl _ w5).drew, RB.next (HS5.out.2.1) (Below.refl _ w5).drew, RB.next (HS5.out.2.2) (Below.refl _ w5).drew⟩
      refine wp_region_growS (S := fun W => Below w.heap.size w W ∧ RB W w1.heap.size ⟨xb, xn⟩ ∧ RB W w2.heap.size ⟨yb, yn⟩) [(0, true), (1, true), (3, true), (4, true), (2, false), (5, false), (6, true), (7, true), (8, true), (9, false), (10, true), (11, true)] (by kernel_rfl) (by kernel_rfl) (by kernel_rfl) (by kernel_rfl) (by intro c a d v w h; cases d <;> exact h) hS ?_
      iterate 4
        (first
          | (refine wpGrowS_float (v := ?_) (by simp only [List.getElem?_toArray, List.getElem?_cons_succ, List.getElem?_cons_zero]; rfl) (by rfl) ?_ ?_
             rotate_left
             · (intro W hW; obtain ⟨f1a, f1b, _, _⟩ := RB.facts (hW.2.1); obtain ⟨f2a, f2b, _, _⟩ := RB.facts (hW.2.2); go_simp; try with_reducible rfl)
             simp only [Act.put, List.setIfInBounds_toArray, List.set_cons_zero, List.set_cons_succ])
          | (refine wpGrowS_skip (by simp only [List.getElem?_toArray, List.getElem?_cons_succ, List.getElem?_cons_zero]; rfl) (by rfl) ?_
             simp only [Act.put, List.setIfInBounds_toArray, List.set_cons_zero, List.set_cons_succ]))
      refine wpGrowS_call (by simp only [List.getElem?_toArray, List.getElem?_cons_succ, List.getElem?_cons_zero]; rfl) (by rfl) fun K hK => ?_
      go_simp
      go_fit (HOxy.out _)
      rintro e wn ⟨rfl, hbn⟩
      have hS : Below w.heap.size w wn ∧ RB wn w1.heap.size ⟨xb, xn⟩ ∧ RB wn w2.heap.size ⟨yb, yn⟩ := ⟨beln (hS.1) hbn, RB.next (hS.2.1) hbn, RB.next (hS.2.2) hbn⟩
      go_simp
      refine hK _ _ hS ?_
      clear hK K
      try simp only [Act.put, List.setIfInBounds_toArray, List.set_cons_zero, List.set_cons_succ]
      refine wpGrowS_call (by simp only [List.getElem?_toArray, List.getElem?_cons_succ, List.getElem?_cons_zero]; rfl) (by rfl) fun K hK => ?_
      go_simp
      go_fit (HCxy.out _)
      rintro e wn ⟨rfl, hbn⟩
      have hS : Below w.heap.size w wn ∧ RB wn w1.heap.size ⟨xb, xn⟩ ∧ RB wn w2.heap.size ⟨yb, yn⟩ := ⟨beln (hS.1) hbn, RB.next (hS.2.1) hbn, RB.next (hS.2.2) hbn⟩
      go_simp
      refine hK _ _ hS ?_
      clear hK K
      try simp only [Act.put, List.setIfInBounds_toArray, List.set_cons_zero, List.set_cons_succ]
      iterate 3
        (first
          | (refine wpGrowS_float (v := ?_) (by simp only [List.getElem?_toArray, List.getElem?_cons_succ, List.getElem?_cons_zero]; rfl) (by rfl) ?_ ?_
             rotate_left
             · (intro W hW; obtain ⟨f1a, f1b, _, _⟩ := RB.facts (hW.2.1); obtain ⟨f2a, f2b, _, _⟩ := RB.facts (hW.2.2); go_simp; try with_reducible rfl)
             simp only [Act.put, List.setIfInBounds_toArray, List.set_cons_zero, List.set_cons_succ])
          | (refine wpGrowS_skip (by simp only [List.getElem?_toArray, List.getElem?_cons_succ, List.getElem?_cons_zero]; rfl) (by rfl) ?_
             simp only [Act.put, List.setIfInBounds_toArray, List.set_cons_zero, List.set_cons_succ]))
      refine wpGrowS_call (by simp only [List.getElem?_toArray, List.getElem?_cons_succ, List.getElem?_cons_zero]; rfl) (by rfl) fun K hK => ?_
      go_simp
      go_fit (HCyx.out _)
      rintro e wn ⟨rfl, hbn⟩
      have hS : Below w.heap.size w wn ∧ RB wn w1.heap.size ⟨xb, xn⟩ ∧ RB wn w2.heap.size ⟨yb, yn⟩ := ⟨beln (hS.1) hbn, RB.next (hS.2.1) hbn, RB.next (hS.2.2) hbn⟩
      go_simp
      refine hK _ _ hS ?_
      clear hK K
      try simp only [Act.put, List.setIfInBounds_toArray, List.set_cons_zero, List.set_cons_succ]
      iterate 2
        (first
          | (refine wpGrowS_float (v := ?_) (by simp only [List.getElem?_toArray, List.getElem?_cons_succ, List.getElem?_cons_zero]; rfl) (by rfl) ?_ ?_
             rotate_left
             · (intro W hW; obtain ⟨f1a, f1b, _, _⟩ := RB.facts (hW.2.1); obtain ⟨f2a, f2b, _, _⟩ := RB.facts (hW.2.2); go_simp; try with_reducible rfl)
             simp only [Act.put, List.setIfInBounds_toArray, List.set_cons_zero, List.set_cons_succ])
          | (refine wpGrowS_skip (by simp only [List.getElem?_toArray, List.getElem?_cons_succ, List.getElem?_cons_zero]; rfl) (by rfl) ?_
             simp only [Act.put, List.setIfInBounds_toArray, List.set_cons_zero, List.set_cons_succ]))
      refine wpGrowS_nil ?_
      have HS7 := Lib.hid hS
      clear hS HS5 hbn
      generalize wn = w7 at *
      go_upto_region 7 with fail
      have hS : Below w.heap.size w w7.drew ∧ RB w7.drew w1.heap.size ⟨xb, xn⟩ ∧ RB w7.drew w2.heap.size ⟨yb, yn⟩ := ⟨beln (HS7.out.1) (Below.refl _ w7).drew, RB.next (HS7.out.2.1) (Below.refl _ w7).drew, RB.next (HS7.out.2.2) (Below.refl _ w7).drew⟩
      refine wp_region_growS (S := fun W => Below w.heap.size w W ∧ RB W w1.heap.size ⟨xb, xn⟩ ∧ RB W w2.heap.size ⟨yb, yn⟩) [(0, true), (1, true), (8, true), (9, true), (10, true), (2, false), (3, true), (4, true), (5, true), (6, false), (7, true), (11, true), (12, true), (13, false), (14, true), (15, true)] (by kernel_rfl) (by kernel_rfl) (by kernel_rfl) (by kernel_rfl) (by intro c a d v w h; cases d <;> exact h) hS ?_
      iterate 5
        (first
          | (refine wpGrowS_float (v := ?_) (by simp only [List.getElem?_toArray, List.getElem?_cons_succ, List.getElem?_cons_zero]; rfl) (by rfl) ?_ ?_
             rotate_left
             · (intro W hW; obtain ⟨f1a, f1b, _, _⟩ := RB.facts (hW.2.1); obtain ⟨f2a, f2b, _, _⟩ := RB.facts (hW.2.2); go_simp; try with_reducible rfl)
             simp only [Act.put, List.setIfInBounds_toArray, List.set_cons_zero, List.set_cons_succ])
          | (refine wpGrowS_skip (by simp only [List.getElem?_toArray, List.getElem?_cons_succ, List.getElem?_cons_zero]; rfl) (by rfl) ?_
             simp only [Act.put, List.setIfInBounds_toArray, List.set_cons_zero, List.set_cons_succ]))
      refine wpGrowS_call (by simp only [List.getElem?_toArray, List.getElem?_cons_succ, List.getElem?_cons_zero]; rfl) (by rfl) fun K hK => ?_
      go_simp
      go_fit (HCxy.out _)
      rintro e wn ⟨rfl, hbn⟩
      have hS : Below w.heap.size w wn ∧ RB wn w1.heap.size ⟨xb, xn⟩ ∧ RB wn w2.heap.size ⟨yb, yn⟩ := ⟨beln (hS.1) hbn, RB.next (hS.2.1) hbn, RB.next (hS.2.2) hbn⟩
      go_simp
      refine hK _ _ hS ?_
      clear hK K
      try simp only [Act.put, List.setIfInBounds_toArray, List.set_cons_zero, List.set_cons_succ]
      iterate 3
        (first
          | (refine wpGrowS_float (v := ?_) (by simp only [List.getElem?_toArray, List.getElem?_cons_succ, List.getElem?_cons_zero]; rfl) (by rfl) ?_ ?_
             rotate_left
             · (intro W hW; obtain ⟨f1a, f1b, _, _⟩ := RB.facts (hW.2.1); obtain ⟨f2a, f2b, _, _⟩ := RB.facts (hW.2.2); go_simp; try with_reducible rfl)
             simp only [Act.put, List.setIfInBounds_toArray, List.set_cons_zero, List.set_cons_succ])
          | (refine wpGrowS_skip (by simp only [List.getElem?_toArray, List.getElem?_cons_succ, List.getElem?_cons_zero]; rfl) (by rfl) ?_
             simp only [Act.put, List.setIfInBounds_toArray, List.set_cons_zero, List.set_cons_succ]))
      refine wpGrowS_pass hS (by simp only [List.getElem?_toArray, List.getElem?_cons_succ, List.getElem?_cons_zero]; rfl) (by rfl) ?_
      try simp only [Act.put, List.setIfInBounds_toArray, List.set_cons_zero, List.set_cons_succ]
      iterate 3
        (first
          | (refine wpGrowS_float (v := ?_) (by simp only [List.getElem?_toArray, List.getElem?_cons_succ, List.getElem?_cons_zero]; rfl) (by rfl) ?_ ?_
             rotate_left
             · (intro W hW; obtain ⟨f1a, f1b, _, _⟩ := RB.facts (hW.2.1); obtain ⟨f2a, f2b, _, _⟩ := RB.facts (hW.2.2); go_simp; try with_reducible rfl)
             simp only [Act.put, List.setIfInBounds_toArray, List.set_cons_zero, List.set_cons_succ])
          | (refine wpGrowS_skip (by simp only [List.getElem?_toArray, List.getElem?_cons_succ, List.getElem?_cons_zero]; rfl) (by rfl) ?_
             simp only [Act.put, List.setIfInBounds_toArray, List.set_cons_zero, List.set_cons_succ]))
      refine wpGrowS_call (by simp only [List.getElem?_toArray, List.getElem?_cons_succ, List.getElem?_cons_zero]; rfl) (by rfl) fun K hK => ?_
      go_simp
      go_fit (HAW.out _ (hS.1))
      rintro e wn ⟨rfl, hbn⟩
      have hS : Below w.heap.size w wn ∧ RB wn w1.heap.size ⟨xb, xn⟩ ∧ RB wn w2.heap.size ⟨yb, yn⟩ := ⟨beln (hS.1) hbn, RB.next (hS.2.1) hbn, RB.next (hS.2.2) hbn⟩
      go_simp
      refine hK _ _ hS ?_
      clear hK K
      try simp only [Act.put, List.setIfInBounds_toArray, List.set_cons_zero, List.set_cons_succ]
      iterate 2
        (first
          | (refine wpGrowS_float (v := ?_) (by simp only [List.getElem?_toArray, List.getElem?_cons_succ, List.getElem?_cons_zero]; rfl) (by rfl) ?_ ?_
             rotate_left
             · (intro W hW; obtain ⟨f1a, f1b, _, _⟩ := RB.facts (hW.2.1); obtain ⟨f2a, f2b, _, _⟩ := RB.facts (hW.2.2); go_simp; try with_reducible rfl)
             simp only [Act.put, List.setIfInBounds_toArray, List.set_cons_zero, List.set_cons_succ])
          | (refine wpGrowS_skip (by simp only [List.getElem?_toArray, List.getElem?_cons_succ, List.getElem?_cons_zero]; rfl) (by rfl) ?_
             simp only [Act.put, List.setIfInBounds_toArray, List.set_cons_zero, List.set_cons_succ]))
      refine wpGrowS_nil ?_
      have HEND := Lib.hid hS.1
      clear hS hbn HS7
      go_wp2
      go_ret
      exact ⟨rfl, HEND.out⟩
  · have hne := HNE.out rfl
    clear hcxy hcyx HNE HE
    by_cases he : xb = yb
    · subst he
      have hne2 : ¬ xn = yn := fun e => hne ⟨rfl, e⟩
      clear hne
      go_wp2_with fail
      go_upto_region 3 with fail
      have hS : Below w.heap.size w w3.drew ∧ RB w3.drew w1.heap.size ⟨xb, xn⟩ ∧ RB w3.drew w2.heap.size ⟨xb, yn⟩ := ⟨HB.out.drew, HX.out, HY.out⟩
      refine wp_region_growS (S := fun W => Below w.heap.size w W ∧ RB W w1.heap.size ⟨xb, xn⟩ ∧ RB W w2.heap.size ⟨xb, yn⟩) [(0, true), (1, false), (2, true), (3, true), (4, true), (5, false), (6, true), (7, true), (8, true), (9, true), (10, true), (11, false), (12, true), (13, true), (14, true), (15, true), (16, true), (18, true), (19, true), (17, false), (20, false), (21, true), (22, true)] (by kernel_rfl) (by kernel_rfl) (by kernel_rfl) (by kernel_rfl) (by intro c a d v w h; cases d <;> exact h) hS ?_
      iterate 1
        (first
          | (refine wpGrowS_float (v := ?_) (by simp only [List.getElem?_toArray, List.getElem?_cons_zero]; rfl) (by rfl) ?_ ?_
             rotate_left
             · (intro W hW; obtain ⟨f1a, f1b, _, _⟩ := RB.facts (hW.2.1); obtain ⟨f2a, f2b, _, _⟩ := RB.facts (hW.2.2); go_simp; try with_reducible rfl)
             simp only [Act.put, List.setIfInBounds_toArray, List.set_cons_zero, List.set_cons_succ])
          | (refine wpGrowS_skip (by simp only [List.getElem?_toArray, List.getElem?_cons_zero]; rfl) (by rfl) ?_
             simp only [Act.put, List.setIfInBounds_toArray, List.set_cons_zero, List.set_cons_succ]))
      refine wpGrowS_call (by simp only [List.getElem?_toArray, List.getElem?_cons_succ, List.getElem?_cons_zero]; rfl) (by rfl) fun K hK => ?_
      go_simp
      go_fit (HVx.out _)
      rintro e wn ⟨rfl, hbn⟩
      have hS : Below w.heap.size w wn ∧ RB wn w1.heap.size ⟨xb, xn⟩ ∧ RB wn w2.heap.size ⟨xb, yn⟩ := ⟨beln (hS.1) hbn, RB.next (hS.2.1) hbn, RB.next (hS.2.2) hbn⟩
      go_simp
      refine hK _ _ hS ?_
      clear hK K
      try simp only [Act.put, List.setIfInBounds_toArray, List.set_cons_zero, List.set_cons_succ]
      iterate 3
        (first
          | (refine wpGrowS_float (v := ?_) (by simp only [List.getElem?_toArray, List.getElem?_cons_succ, List.getElem?_cons_zero]; rfl) (by rfl) ?_ ?_
             rotate_left
             · (intro W hW; obtain ⟨f1a, f1b, _, _⟩ := RB.facts (hW.2.1); obtain ⟨f2a, f2b, _, _⟩ := RB.facts (hW.2.2); go_simp; try with_reducible rfl)
             simp only [Act.put, List.setIfInBounds_toArray, List.set_cons_zero, List.set_cons_succ])
          | (refine wpGrowS_skip (by simp only [List.getElem?_toArray, List.getElem?_cons_succ, List.getElem?_cons_zero]; rfl) (by rfl) ?_
             simp only [Act.put, List.setIfInBounds_toArray, List.set_cons_zero, List.set_cons_succ]))
      refine wpGrowS_call (by simp only [List.getElem?_toArray, List.getElem?_cons_succ, List.getElem?_cons_zero]; rfl) (by rfl) fun K hK => ?_
      go_simp
      go_fit (HVy.out _)
      rintro e wn ⟨rfl, hbn⟩
      have hS : Below w.heap.size w wn ∧ RB wn w1.heap.size ⟨xb, xn⟩ ∧ RB wn w2.heap.size ⟨xb, yn⟩ := ⟨beln (hS.1) hbn, RB.next (hS.2.1) hbn, RB.next (hS.2.2) hbn⟩
      go_simp
      refine hK _ _ hS ?_
      clear hK K
      try simp only [Act.put, List.setIfInBounds_toArray, List.set_cons_zero, List.set_cons_succ]
      iterate 5
        (first
          | (refine wpGrowS_float (v := ?_) (by simp only [List.getElem?_toArray, List.getElem?_cons_succ, List.getElem?_cons_zero]; rfl) (by rfl) ?_ ?_
             rotate_left
             · (intro W hW; obtain ⟨f1a, f1b, _, _⟩ := RB.facts (hW.2.1); obtain ⟨f2a, f2b, _, _⟩ := RB.facts (hW.2.2); go_simp; try with_reducible rfl)
             simp only [Act.put, List.setIfInBounds_toArray, List.set_cons_zero, List.set_cons_succ])
          | (refine wpGrowS_skip (by simp only [List.getElem?_toArray, List.getElem?_cons_succ, List.getElem?_cons_zero]; rfl) (by rfl) ?_
             simp only [Act.put, List.setIfInBounds_toArray, List.set_cons_zero, List.set_cons_succ]))
      refine wpGrowS_call (by simp only [List.getElem?_toArray, List.getElem?_cons_succ, List.getElem?_cons_zero]; rfl) (by rfl) fun K hK => ?_
      go_simp
      go_fit (HOxx.out _)
      rintro e wn ⟨rfl, hbn⟩
      have hS : Below w.heap.size w wn ∧ RB wn w1.heap.size ⟨xb, xn⟩ ∧ RB wn w2.heap.size ⟨xb, yn⟩ := ⟨beln (hS.1) hbn, RB.next (hS.2.1) hbn, RB.next (hS.2.2) hbn⟩
      go_simp
      refine hK _ _ hS ?_
      clear hK K
      try simp only [Act.put, List.setIfInBounds_toArray, List.set_cons_zero, List.set_cons_succ]
      iterate 7
        (first
          | (refine wpGrowS_float (v := ?_) (by simp only [List.getElem?_toArray, List.getElem?_cons_succ, List.getElem?_cons_zero]; rfl) (by rfl) ?_ ?_
             rotate_left
             · (intro W hW; obtain ⟨f1a, f1b, _, _⟩ := RB.facts (hW.2.1); obtain ⟨f2a, f2b, _, _⟩ := RB.facts (hW.2.2); go_simp; try with_reducible rfl)
             simp only [Act.put, List.setIfInBounds_toArray, List.set_cons_zero, List.set_cons_succ])
          | (refine wpGrowS_skip (by simp only [List.getElem?_toArray, List.getElem?_cons_succ, List.getElem?_cons_zero]; rfl) (by rfl) ?_
             simp only [Act.put, List.setIfInBounds_toArray, List.set_cons_zero, List.set_cons_succ]))
      refine wpGrowS_call (by simp only [List.getElem?_toArray, List.getElem?_cons_succ, List.getElem?_cons_zero]; rfl) (by rfl) fun K hK => ?_
      go_simp
      go_fit (HOxy.out _)
      rintro e wn ⟨rfl, hbn⟩
      have hS : Below w.heap.size w wn ∧ RB wn w1.heap.size ⟨xb, xn⟩ ∧ RB wn w2.heap.size ⟨xb, yn⟩ := ⟨beln (hS.1) hbn, RB.next (hS.2.1) hbn, RB.next (hS.2.2) hbn⟩
      go_simp
      refine hK _ _ hS ?_
      clear hK K
      try simp only [Act.put, List.setIfInBounds_toArray, List.set_cons_zero, List.set_cons_succ]
      refine wpGrowS_call (by simp only [List.getElem?_toArray, List.getElem?_cons_succ, List.getElem?_cons_zero]; rfl) (by rfl) fun K hK => ?_
      go_simp
      go_fit (HOyx.out _)
      rintro e wn ⟨rfl, hbn⟩
      have hS : Below w.heap.size w wn ∧ RB wn w1.heap.size ⟨xb, xn⟩ ∧ RB wn w2.heap.size ⟨xb, yn⟩ := ⟨beln (hS.1) hbn, RB.next (hS.2.1) hbn, RB.next (hS.2.2) hbn⟩
      go_simp
      refine hK _ _ hS ?_
      clear hK K
      try simp only [Act.put, List.setIfInBounds_toArray, List.set_cons_zero, List.set_cons_succ]
      iterate 2
        (first
          | (refine wpGrowS_float (v := ?_) (by simp only [List.getElem?_toArray, List.getElem?_cons_succ, List.getElem?_cons_zero]; rfl) (by rfl) ?_ ?_
             rotate_left
             · (intro W hW; obtain ⟨f1a, f1b, _, _⟩ := RB.facts (hW.2.1); obtain ⟨f2a, f2b, _, _⟩ := RB.facts (hW.2.2); go_simp; try with_reducible rfl)
             simp only [Act.put, List.setIfInBounds_toArray, List.set_cons_zero, List.set_cons_succ])
          | (refine wpGrowS_skip (by simp only [List.getElem?_toArray, List.getElem?_cons_succ, List.getElem?_cons_zero]; rfl) (by rfl) ?_
             simp only [Act.put, List.setIfInBounds_toArray, List.set_cons_zero, List.set_cons_succ]))
      refine wpGrowS_nil ?_
      have HS5 := Lib.hid hS
      clear hS hbn
      generalize wn = w5 at *
      go_upto_region 5 with fail
      have hS : Below w.heap.size w w5.drew ∧ RB w5.drew w1.heap.size ⟨xb, xn⟩ ∧ RB w5.drew w2.heap.size ⟨xb, yn⟩ := ⟨beln (HS5.out.1) (Below.refl _ w5).drew, RB.next (HS5.out.2.1) (Below.refl _ w5).drew, RB.next (HS5.out.2.2) (Below.refl _ w5).drew⟩
      refine wp_region_growS (S := fun W => Below w.heap.size w W ∧ RB W w1.heap.size ⟨xb, xn⟩ ∧ RB W w2.heap.size ⟨xb, yn⟩) [(0, true), (1, true), (3, true), (4, true), (2, false), (5, false), (6, true), (7, true), (8, true), (9, false), (10, true), (11, true)] (by kernel_rfl) (by kernel_rfl) (by kernel_rfl) (by kernel_rfl) (by intro c a d v w h; cases d <;> exact h) hS ?_
      iterate 4
        (first
          | (refine wpGrowS_float (v := ?_) (by simp only [List.getElem?_toArray, List.getElem?_cons_succ, List.getElem?_cons_zero]; rfl) (by rfl) ?_ ?_
             rotate_left
             · (intro W hW; obtain ⟨f1a, f1b, _, _⟩ := RB.facts (hW.2.1); obtain ⟨f2a, f2b, _, _⟩ := RB.facts (hW.2.2); go_simp; try with_reducible rfl)
             simp only [Act.put, List.setIfInBounds_toArray, List.set_cons_zero, List.set_cons_succ])
          | (refine wpGrowS_skip (by simp only [List.getElem?_toArray, List.getElem?_cons_succ, List.getElem?_cons_zero]; rfl) (by rfl) ?_
             simp only [Act.put, List.setIfInBounds_toArray, List.set_cons_zero, List.set_cons_succ]))
      refine wpGrowS_call (by simp only [List.getElem?_toArray, List.getElem?_cons_succ, List.getElem?_cons_zero]; rfl) (by rfl) fun K hK => ?_
      go_simp
      go_fit (HOxy.out _)
      rintro e wn ⟨rfl, hbn⟩
      have hS : Below w.heap.size w wn ∧ RB wn w1.heap.size ⟨xb, xn⟩ ∧ RB wn w2.heap.size ⟨xb, yn⟩ := ⟨beln (hS.1) hbn, RB.next (hS.2.1) hbn, RB.next (hS.2.2) hbn⟩
      go_simp
      refine hK _ _ hS ?_
      clear hK K
      try simp only [Act.put, List.setIfInBounds_toArray, List.set_cons_zero, List.set_cons_succ]
      refine wpGrowS_call (by simp only [List.getElem?_toArray, List.getElem?_cons_succ, List.getElem?_cons_zero]; rfl) (by rfl) fun K hK => ?_
      go_simp
      go_fit (HCxy.out _)
      rintro e wn ⟨rfl, hbn⟩
      have hS : Below w.heap.size w wn ∧ RB wn w1.heap.size ⟨xb, xn⟩ ∧ RB wn w2.heap.size ⟨xb, yn⟩ := ⟨beln (hS.1) hbn, RB.next (hS.2.1) hbn, RB.next (hS.2.2) hbn⟩
      go_simp
      refine hK _ _ hS ?_
      clear hK K
      try simp only [Act.put, List.setIfInBounds_toArray, List.set_cons_zero, List.set_cons_succ]
      iterate 3
        (first
          | (refine wpGrowS_float (v := ?_) (by simp only [List.getElem?_toArray, List.getElem?_cons_succ, List.getElem?_cons_zero]; rfl) (by rfl) ?_ ?_
             rotate_left
             · (intro W hW; obtain ⟨f1a, f1b, _, _⟩ := RB.facts (hW.2.1); obtain ⟨f2a, f2b, _, _⟩ := RB.facts (hW.2.2); go_simp; try with_reducible rfl)
             simp only [Act.put, List.setIfInBounds_toArray, List.set_cons_zero, List.set_cons_succ])
          | (refine wpGrowS_skip (by simp only [List.getElem?_toArray, List.getElem?_cons_succ, List.getElem?_cons_zero]; rfl) (by rfl) ?_
             simp only [Act.put, List.setIfInBounds_toArray, List.set_cons_zero, List.set_cons_succ]))
      refine wpGrowS_call (by simp only [List.getElem?_toArray, List.getElem?_cons_succ, List.getElem?_cons_zero]; rfl) (by rfl) fun K hK => ?_
      go_simp
      go_fit (HCyx.out _)
      rintro e wn ⟨rfl, hbn⟩
      have hS : Below w.heap.size w wn ∧ RB wn w1.heap.size ⟨xb, xn⟩ ∧ RB wn w2.heap.size ⟨xb, yn⟩ := ⟨beln (hS.1) hbn, RB.next (hS.2.1) hbn, RB.next (hS.2.2) hbn⟩
      go_simp
      refine hK _ _ hS ?_
      clear hK K
      try simp only [Act.put, List.setIfInBounds_toArray, List.set_cons_zero, List.set_cons_succ]
      iterate 2
        (first
          | (refine wpGrowS_float (v := ?_) (by simp only [List.getElem?_toArray, List.getElem?_cons_succ, List.getElem?_cons_zero]; rfl) (by rfl) ?_ ?_
             rotate_left
             · (intro W hW; obtain ⟨f1a, f1b, _, _⟩ := RB.facts (hW.2.1); obtain ⟨f2a, f2b, _, _⟩ := RB.facts (hW.2.2); go_simp; try with_reducible rfl)
             simp only [Act.put, List.setIfInBounds_toArray, List.set_cons_zero, List.set_cons_succ])
          | (refine wpGrowS_skip (by simp only [List.getElem?_toArray, List.getElem?_cons_succ, List.getElem?_cons_zero]; rfl) (by rfl) ?_
             simp only [Act.put, List.setIfInBounds_toArray, List.set_cons_zero, List.set_cons_succ]))
      refine wpGrowS_nil ?_
      have HS7 := Lib.hid hS
      clear hS HS5 hbn
      generalize wn = w7 at *
      go_upto_region 7 with fail
      have hS : Below w.heap.size w w7.drew ∧ RB w7.drew w1.heap.size ⟨xb, xn⟩ ∧ RB w7.drew w2.heap.size ⟨xb, yn⟩ := ⟨beln (HS7.out.1) (Below.refl _ w7).drew, RB.next (HS7.out.2.1) (Below.refl _ w7).drew, RB.next (HS7.out.2.2) (Below.refl _ w7).drew⟩
      refine wp_region_growS (S := fun W => Below w.heap.size w W ∧ RB W w1.heap.size ⟨xb, xn⟩ ∧ RB W w2.heap.size ⟨xb, yn⟩) [(0, true), (1, true), (8, true), (9, true), (10, true), (2, false), (3, true), (4, true), (5, true), (6, false), (7, true), (11, true), (12, true), (13, false), (14, true), (15, true)] (by kernel_rfl) (by kernel_rfl) (by kernel_rfl) (by kernel_rfl) (by intro c a d v w h; cases d <;> exact h) hS ?_
      iterate 5
        (first
          | (refine wpGrowS_float (v := ?_) (by simp only [List.getElem?_toArray, List.getElem?_cons_succ, List.getElem?_cons_zero]; rfl) (by rfl) ?_ ?_
             rotate_left
             · (intro W hW; obtain ⟨f1a, f1b, _, _⟩ := RB.facts (hW.2.1); obtain ⟨f2a, f2b, _, _⟩ := RB.facts (hW.2.2); go_simp; try with_reducible rfl)
             simp only [Act.put, List.setIfInBounds_toArray, List.set_cons_zero, List.set_cons_succ])
          | (refine wpGrowS_skip (by simp only [List.getElem?_toArray, List.getElem?_cons_succ, List.getElem?_cons_zero]; rfl) (by rfl) ?_
             simp only [Act.put, List.setIfInBounds_toArray, List.set_cons_zero, List.set_cons_succ]))
      refine wpGrowS_call (by simp only [List.getElem?_toArray, List.getElem?_cons_succ, List.getElem?_cons_zero]; rfl) (by rfl) fun K hK => ?_
      go_simp
      go_fit (HCxy.out _)
      rintro e wn ⟨rfl, hbn⟩
      have hS : Below w.heap.size w wn ∧ RB wn w1.heap.size ⟨xb, xn⟩ ∧ RB wn w2.heap.size ⟨xb, yn⟩ := ⟨beln (hS.1) hbn, RB.next (hS.2.1) hbn, RB.next (hS.2.2) hbn⟩
      go_simp
      refine hK _ _ hS ?_
      clear hK K
      try simp only [Act.put, List.setIfInBounds_toArray, List.set_cons_zero, List.set_cons_succ]
      iterate 3
        (first
          | (refine wpGrowS_float (v := ?_) (by simp only [List.getElem?_toArray, List.getElem?_cons_succ, List.getElem?_cons_zero]; rfl) (by rfl) ?_ ?_
             rotate_left
             · (intro W hW; obtain ⟨f1a, f1b, _, _⟩ := RB.facts (hW.2.1); obtain ⟨f2a, f2b, _, _⟩ := RB.facts (hW.2.2); go_simp; try with_reducible rfl)
             simp only [Act.put, List.setIfInBounds_toArray, List.set_cons_zero, List.set_cons_succ])
          | (refine wpGrowS_skip (by simp only [List.getElem?_toArray, List.getElem?_cons_succ, List.getElem?_cons_zero]; rfl) (by rfl) ?_
             simp only [Act.put, List.setIfInBounds_toArray, List.set_cons_zero, List.set_cons_succ]))
      refine wpGrowS_pass hS (by simp only [List.getElem?_toArray, List.getElem?_cons_succ, List.getElem?_cons_zero]; rfl) (by rfl) ?_
      try simp only [Act.put, List.setIfInBounds_toArray, List.set_cons_zero, List.set_cons_succ]
      iterate 3
        (first
          | (refine wpGrowS_float (v := ?_) (by simp only [List.getElem?_toArray, List.getElem?_cons_succ, List.getElem?_cons_zero]; rfl) (by rfl) ?_ ?_
             rotate_left
             · (intro W hW; obtain ⟨f1a, f1b, _, _⟩ := RB.facts (hW.2.1); obtain ⟨f2a, f2b, _, _⟩ := RB.facts (hW.2.2); go_simp; try with_reducible rfl)
             simp only [Act.put, List.setIfInBounds_toArray, List.set_cons_zero, List.set_cons_succ])
          | (refine wpGrowS_skip (by simp only [List.getElem?_toArray, List.getElem?_cons_succ, List.getElem?_cons_zero]; rfl) (by rfl) ?_
             simp only [Act.put, List.setIfInBounds_toArray, List.set_cons_zero, List.set_cons_succ]))
      refine wpGrowS_call (by simp only [List.getElem?_toArray, List.getElem?_cons_succ, List.getElem?_cons_zero]; rfl) (by rfl) fun K hK => ?_
      go_simp
      go_fit (HAW.out _ (hS.1))
      rintro e wn ⟨rfl, hbn⟩
      have hS : Below w.heap.size w wn ∧ RB wn w1.heap.size ⟨xb, xn⟩ ∧ RB wn w2.heap.size ⟨xb, yn⟩ := ⟨beln (hS.1) hbn, RB.next (hS.2.1) hbn, RB.next (hS.2.2) hbn⟩
      go_simp
      refine hK _ _ hS ?_
      clear hK K
      try simp only [Act.put, List.setIfInBounds_toArray, List.set_cons_zero, List.set_cons_succ]
      iterate 2
        (first
          | (refine wpGrowS_float (v := ?_) (by simp only [List.getElem?_toArray, List.getElem?_cons_succ, List.getElem?_cons_zero]; rfl) (by rfl) ?_ ?_
             rotate_left
             · (intro W hW; obtain ⟨f1a, f1b, _, _⟩ := RB.facts (hW.2.1); obtain ⟨f2a, f2b, _, _⟩ := RB.facts (hW.2.2); go_simp; try with_reducible rfl)
             simp only [Act.put, List.setIfInBounds_toArray, List.set_cons_zero, List.set_cons_succ])
          | (refine wpGrowS_skip (by simp only [List.getElem?_toArray, List.getElem?_cons_succ, List.getElem?_cons_zero]; rfl) (by rfl) ?_
             simp only [Act.put, List.setIfInBounds_toArray, List.set_cons_zero, List.set_cons_succ]))
      refine wpGrowS_nil ?_
      have HEND := Lib.hid hS.1
      clear hS hbn HS7
      go_wp2
      go_ret
      exact ⟨rfl, HEND.out⟩
    · clear hne
      go_wp2_with fail
      go_upto_region 3 with fail
      have hS : Below w.heap.size w w3.drew ∧ RB w3.drew w1.heap.size ⟨xb, xn⟩ ∧ RB w3.drew w2.heap.size ⟨yb, yn⟩ := ⟨HB.out.drew, HX.out, HY.out⟩
      refine wp_region_growS (S := fun W => Below w.heap.size w W ∧ RB W w1.heap.size ⟨xb, xn⟩ ∧ RB W w2.heap.size ⟨yb, yn⟩) [(0, true), (1, false), (2, true), (3, true), (4, true), (5, false), (6, true), (7, true), (8, true), (9, true), (10, true), (11, false), (12, true), (13, true), (14, true), (15, true), (16, true), (18, true), (19, true), (17, false), (20, false), (21, true), (22, true)] (by kernel_rfl) (by kernel_rfl) (by kernel_rfl) (by kernel_rfl) (by intro c a d v w h; cases d <;> exact h) hS ?_
      iterate 1
        (first
          | (refine wpGrowS_float (v := ?_) (by simp only [List.getElem?_toArray, List.getElem?_cons_zero]; rfl) (by rfl) ?_ ?_
             rotate_left
             · (intro W hW; obtain ⟨f1a, f1b, _, _⟩ := RB.facts (hW.2.1); obtain ⟨f2a, f2b, _, _⟩ := RB.facts (hW.2.2); go_simp; try with_reducible rfl)
             simp only [Act.put, List.setIfInBounds_toArray, List.set_cons_zero, List.set_cons_succ])
          | (refine wpGrowS_skip (by simp only [List.getElem?_toArray, List.getElem?_cons_zero]; rfl) (by rfl) ?_
             simp only [Act.put, List.setIfInBounds_toArray, List.set_cons_zero, List.set_cons_succ]))
      refine wpGrowS_call (by simp only [List.getElem?_toArray, List.getElem?_cons_succ, List.getElem?_cons_zero]; rfl) (by rfl) fun K hK => ?_
      go_simp
      go_fit (HVx.out _)
      rintro e wn ⟨rfl, hbn⟩
      have hS : Below w.heap.size w wn ∧ RB wn w1.heap.size ⟨xb, xn⟩ ∧ RB wn w2.heap.size ⟨yb, yn⟩ := ⟨beln (hS.1) hbn, RB.next (hS.2.1) hbn, RB.next (hS.2.2) hbn⟩
      go_simp
      refine hK _ _ hS ?_
      clear hK K
      try simp only [Act.put, List.setIfInBounds_toArray, List.set_cons_zero, List.set_cons_succ]
      iterate 3
        (first
          | (refine wpGrowS_float (v := ?_) (by simp only [List.getElem?_toArray, List.getElem?_cons_succ, List.getElem?_cons_zero]; rfl) (by rfl) ?_ ?_
             rotate_left
             · (intro W hW; obtain ⟨f1a, f1b, _, _⟩ := RB.facts (hW.2.1); obtain ⟨f2a, f2b, _, _⟩ := RB.facts (hW.2.2); go_simp; try with_reducible rfl)
             simp only [Act.put, List.setIfInBounds_toArray, List.set_cons_zero, List.set_cons_succ])
          | (refine wpGrowS_skip (by simp only [List.getElem?_toArray, List.getElem?_cons_succ, List.getElem?_cons_zero]; rfl) (by rfl) ?_
             simp only [Act.put, List.setIfInBounds_toArray, List.set_cons_zero, List.set_cons_succ]))
      refine wpGrowS_call (by simp only [List.getElem?_toArray, List.getElem?_cons_succ, List.getElem?_cons_zero]; rfl) (by rfl) fun K hK => ?_
      go_simp
      go_fit (HVy.out _)
      rintro e wn ⟨rfl, hbn⟩
      have hS : Below w.heap.size w wn ∧ RB wn w1.heap.size ⟨xb, xn⟩ ∧ RB wn w2.heap.size ⟨yb, yn⟩ := ⟨beln (hS.1) hbn, RB.next (hS.2.1) hbn, RB.next (hS.2.2) hbn⟩
      go_simp
      refine hK _ _ hS ?_
      clear hK K
      try simp only [Act.put, List.setIfInBounds_toArray, List.set_cons_zero, List.set_cons_succ]
      iterate 5
        (first
          | (refine wpGrowS_float (v := ?_) (by simp only [List.getElem?_toArray, List.getElem?_cons_succ, List.getElem?_cons_zero]; rfl) (by rfl) ?_ ?_
             rotate_left
             · (intro W hW; obtain ⟨f1a, f1b, _, _⟩ := RB.facts (hW.2.1); obtain ⟨f2a, f2b, _, _⟩ := RB.facts (hW.2.2); go_simp; try with_reducible rfl)
             simp only [Act.put, List.setIfInBounds_toArray, List.set_cons_zero, List.set_cons_succ])
          | (refine wpGrowS_skip (by simp only [List.getElem?_toArray, List.getElem?_cons_succ, List.getElem?_cons_zero]; rfl) (by rfl) ?_
             simp only [Act.put, List.setIfInBounds_toArray, List.set_cons_zero, List.set_cons_succ]))
      refine wpGrowS_call (by simp only [List.getElem?_toArray, List.getElem?_cons_succ, List.getElem?_cons_zero]; rfl) (by rfl) fun K hK => ?_
      go_simp
      go_fit (HOxx.out _)
      rintro e wn ⟨rfl, hbn⟩
      have hS : Below w.heap.size w wn ∧ RB wn w1.heap.size ⟨xb, xn⟩ ∧ RB wn w2.heap.size ⟨yb, yn⟩ := ⟨beln (hS.1) hbn, RB.next (hS.2.1) hbn, RB.next (hS.2.2) hbn⟩
      go_simp
      refine hK _ _ hS ?_
      clear hK K
      try simp only [Act.put, List.setIfInBounds_toArray, List.set_cons_zero, List.set_cons_succ]
      iterate 7
        (first
          | (refine wpGrowS_float (v := ?_) (by simp only [List.getElem?_toArray, List.getElem?_cons_succ, List.getElem?_cons_zero]; rfl) (by rfl) ?_ ?_
             rotate_left
             · (intro W hW; obtain ⟨f1a, f1b, _, _⟩ := RB.facts (hW.2.1); obtain ⟨f2a, f2b, _, _⟩ := RB.facts (hW.2.2); go_simp; try with_reducible rfl)
             simp only [Act.put, List.setIfInBounds_toArray, List.set_cons_zero, List.set_cons_succ])
          | (refine wpGrowS_skip (by simp only [List.getElem?_toArray, List.getElem?_cons_succ, List.getElem?_cons_zero]; rfl) (by rfl) ?_
             simp only [Act.put, List.setIfInBounds_toArray, List.set_cons_zero, List.set_cons_succ]))
      refine wpGrowS_call (by simp only [List.getElem?_toArray, List.getElem?_cons_succ, List.getElem?_cons_zero]; rfl) (by rfl) fun K hK => ?_
      go_simp
      go_fit (HOxy.out _)
      rintro e wn ⟨rfl, hbn⟩
      have hS : Below w.heap.size w wn ∧ RB wn w1.heap.size ⟨xb, xn⟩ ∧ RB wn w2.heap.size ⟨yb, yn⟩ := ⟨beln (hS.1) hbn, RB.next (hS.2.1) hbn, RB.next (hS.2.2) hbn⟩
      go_simp
      refine hK _ _ hS ?_
      clear hK K
      try simp only [Act.put, List.setIfInBounds_toArray, List.set_cons_zero, List.set_cons_succ]
      refine wpGrowS_call (by simp only [List.getElem?_toArray, List.getElem?_cons_succ, List.getElem?_cons_zero]; rfl) (by rfl) fun K hK => ?_
      go_simp
      go_fit (HOyx.out _)
      rintro e wn ⟨rfl, hbn⟩
      have hS : Below w.heap.size w wn ∧ RB wn w1.heap.size ⟨xb, xn⟩ ∧ RB wn w2.heap.size ⟨yb, yn⟩ := ⟨beln (hS.1) hbn, RB.next (hS.2.1) hbn, RB.next (hS.2.2) hbn⟩
      go_simp
      refine hK _ _ hS ?_
      clear hK K
      try simp only [Act.put, List.setIfInBounds_toArray, List.set_cons_zero, List.set_cons_succ]
      iterate 2
        (first
          | (refine wpGrowS_float (v := ?_) (by simp only [List.getElem?_toArray, List.getElem?_cons_succ, List.getElem?_cons_zero]; rfl) (by rfl) ?_ ?_
             rotate_left
             · (intro W hW; obtain ⟨f1a, f1b, _, _⟩ := RB.facts (hW.2.1); obtain ⟨f2a, f2b, _, _⟩ := RB.facts (hW.2.2); go_simp; try with_reducible rfl)
             simp only [Act.put, List.setIfInBounds_toArray, List.set_cons_zero, List.set_cons_succ])
          | (refine wpGrowS_skip (by simp only [List.getElem?_toArray, List.getElem?_cons_succ, List.getElem?_cons_zero]; rfl) (by rfl) ?_
             simp only [Act.put, List.setIfInBounds_toArray, List.set_cons_zero, List.set_cons_succ]))
      refine wpGrowS_nil ?_
      have HS5 := Lib.hid hS
      clear hS hbn
      generalize wn = w5 at *
      go_upto_region 5 with fail
      have hS : Below w.heap.size w w5.drew ∧ RB w5.drew w1.heap.size ⟨xb, xn⟩ ∧ RB w5.drew w2.heap.size ⟨yb, yn⟩ := ⟨beln (HS5.out.1) (Below.refl _ w5).drew, RB.next (HS5.out.2.1) (Below.refl _ w5).drew, RB.next (HS5.out.2.2) (Below.refl _ w5).drew⟩
      refine wp_region_growS (S := fun W => Below w.heap.size w W ∧ RB W w1.heap.size ⟨xb, xn⟩ ∧ RB W w2.heap.size ⟨yb, yn⟩) [(0, true), (1, true), (3, true), (4, true), (2, false), (5, false), (6, true), (7, true), (8, true), (9, false), (10, true), (11, true)] (by kernel_rfl) (by kernel_rfl) (by kernel_rfl) (by kernel_rfl) (by intro c a d v w h; cases d <;> exact h) hS ?_
      iterate 4
        (first
          | (refine wpGrowS_float (v := ?_) (by simp only [List.getElem?_toArray, List.getElem?_cons_succ, List.getElem?_cons_zero]; rfl) (by rfl) ?_ ?_
             rotate_left
             · (intro W hW; obtain ⟨f1a, f1b, _, _⟩ := RB.facts (hW.2.1); obtain ⟨f2a, f2b, _, _⟩ := RB.facts (hW.2.2); go_simp; try with_reducible rfl)
             simp only [Act.put, List.setIfInBounds_toArray, List.set_cons_zero, List.set_cons_succ])
          | (refine wpGrowS_skip (by simp only [List.getElem?_toArray, List.getElem?_cons_succ, List.getElem?_cons_zero]; rfl) (by rfl) ?_
             simp only [Act.put, List.setIfInBounds_toArray, List.set_cons_zero, List.set_cons_succ]))
      refine wpGrowS_call (by simp only [List.getElem?_toArray, List.getElem?_cons_succ, List.getElem?_cons_zero]; rfl) (by rfl) fun K hK => ?_
      go_simp
      go_fit (HOxy.out _)
      rintro e wn ⟨rfl, hbn⟩
      have hS : Below w.heap.size w wn ∧ RB wn w1.heap.size ⟨xb, xn⟩ ∧ RB wn w2.heap.size ⟨yb, yn⟩ := ⟨beln (hS.1) hbn, RB.next (hS.2.1) hbn, RB.next (hS.2.2) hbn⟩
      go_simp
      refine hK _ _ hS ?_
      clear hK K
      try simp only [Act.put, List.setIfInBounds_toArray, List.set_cons_zero, List.set_cons_succ]
      refine wpGrowS_call (by simp only [List.getElem?_toArray, List.getElem?_cons_succ, List.getElem?_cons_zero]; rfl) (by rfl) fun K hK => ?_
      go_simp
      go_fit (HCxy.out _)
      rintro e wn ⟨rfl, hbn⟩
      have hS : Below w.heap.size w wn ∧ RB wn w1.heap.size ⟨xb, xn⟩ ∧ RB wn w2.heap.size ⟨yb, yn⟩ := ⟨beln (hS.1) hbn, RB.next (hS.2.1) hbn, RB.next (hS.2.2) hbn⟩
      go_simp
      refine hK _ _ hS ?_
      clear hK K
      try simp only [Act.put, List.setIfInBounds_toArray, List.set_cons_zero, List.set_cons_succ]
      iterate 3
        (first
          | (refine wpGrowS_float (v := ?_) (by simp only [List.getElem?_toArray, List.getElem?_cons_succ, List.getElem?_cons_zero]; rfl) (by rfl) ?_ ?_
             rotate_left
             · (intro W hW; obtain ⟨f1a, f1b, _, _⟩ := RB.facts (hW.2.1); obtain ⟨f2a, f2b, _, _⟩ := RB.facts (hW.2.2); go_simp; try with_reducible rfl)
             simp only [Act.put, List.setIfInBounds_toArray, List.set_cons_zero, List.set_cons_succ])
          | (refine wpGrowS_skip (by simp only [List.getElem?_toArray, List.getElem?_cons_succ, List.getElem?_cons_zero]; rfl) (by rfl) ?_
             simp only [Act.put, List.setIfInBounds_toArray, List.set_cons_zero, List.set_cons_succ]))
      refine wpGrowS_call (by simp only [List.getElem?_toArray, List.getElem?_cons_succ, List.getElem?_cons_zero]; rfl) (by rfl) fun K hK => ?_
      go_simp
      go_fit (HCyx.out _)
      rintro e wn ⟨rfl, hbn⟩
      have hS : Below w.heap.size w wn ∧ RB wn w1.heap.size ⟨xb, xn⟩ ∧ RB wn w2.heap.size ⟨yb, yn⟩ := ⟨beln (hS.1) hbn, RB.next (hS.2.1) hbn, RB.next (hS.2.2) hbn⟩
      go_simp
      refine hK _ _ hS ?_
      clear hK K
      try simp only [Act.put, List.setIfInBounds_toArray, List.set_cons_zero, List.set_cons_succ]
      iterate 2
        (first
          | (refine wpGrowS_float (v := ?_) (by simp only [List.getElem?_toArray, List.getElem?_cons_succ, List.getElem?_cons_zero]; rfl) (by rfl) ?_ ?_
             rotate_left
             · (intro W hW; obtain ⟨f1a, f1b, _, _⟩ := RB.facts (hW.2.1); obtain ⟨f2a, f2b, _, _⟩ := RB.facts (hW.2.2); go_simp; try with_reducible rfl)
             simp only [Act.put, List.setIfInBounds_toArray, List.set_cons_zero, List.set_cons_succ])
          | (refine wpGrowS_skip (by simp only [List.getElem?_toArray, List.getElem?_cons_succ, List.getElem?_cons_zero]; rfl) (by rfl) ?_
             simp only [Act.put, List.setIfInBounds_toArray, List.set_cons_zero, List.set_cons_succ]))
      refine wpGrowS_nil ?_
      have HS7 := Lib.hid hS
      clear hS HS5 hbn
      generalize wn = w7 at *
      go_upto_region 7 with fail
      have hS : Below w.heap.size w w7.drew ∧ RB w7.drew w1.heap.size ⟨xb, xn⟩ ∧ RB w7.drew w2.heap.size ⟨yb, yn⟩ := ⟨beln (HS7.out.1) (Below.refl _ w7).drew, RB.next (HS7.out.2.1) (Below.refl _ w7).drew, RB.next (HS7.out.2.2) (Below.refl _ w7).drew⟩
      refine wp_region_growS (S := fun W => Below w.heap.size w W ∧ RB W w1.heap.size ⟨xb, xn⟩ ∧ RB W w2.heap.size ⟨yb, yn⟩) [(0, true), (1, true), (8, true), (9, true), (10, true), (2, false), (3, true), (4, true), (5, true), (6, false), (7, true), (11, true), (12, true), (13, false), (14, true), (15, true)] (by kernel_rfl) (by kernel_rfl) (by kernel_rfl) (by kernel_rfl) (by intro c a d v w h; cases d <;> exact h) hS ?_
      iterate 5
        (first
          | (refine wpGrowS_float (v := ?_) (by simp only [List.getElem?_toArray, List.getElem?_cons_succ, List.getElem?_cons_zero]; rfl) (by rfl) ?_ ?_
             rotate_left
             · (intro W hW; obtain ⟨f1a, f1b, _, _⟩ := RB.facts (hW.2.1); obtain ⟨f2a, f2b, _, _⟩ := RB.facts (hW.2.2); go_simp; try with_reducible rfl)
             simp only [Act.put, List.setIfInBounds_toArray, List.set_cons_zero, List.set_cons_succ])
          | (refine wpGrowS_skip (by simp only [List.getElem?_toArray, List.getElem?_cons_succ, List.getElem?_cons_zero]; rfl) (by rfl) ?_
             simp only [Act.put, List.setIfInBounds_toArray, List.set_cons_zero, List.set_cons_succ]))
      refine wpGrowS_call (by simp only [List.getElem?_toArray, List.getElem?_cons_succ, List.getElem?_cons_zero]; rfl) (by rfl) fun K hK => ?_
      go_simp
      go_fit (HCxy.out _)
      rintro e wn ⟨rfl, hbn⟩
      have hS : Below w.heap.size w wn ∧ RB wn w1.heap.size ⟨xb, xn⟩ ∧ RB wn w2.heap.size ⟨yb, yn⟩ := ⟨beln (hS.1) hbn, RB.next (hS.2.1) hbn, RB.next (hS.2.2) hbn⟩
      go_simp
      refine hK _ _ hS ?_
      clear hK K
      try simp only [Act.put, List.setIfInBounds_toArray, List.set_cons_zero, List.set_cons_succ]
      iterate 3
        (first
          | (refine wpGrowS_float (v := ?_) (by simp only [List.getElem?_toArray, List.getElem?_cons_succ, List.getElem?_cons_zero]; rfl) (by rfl) ?_ ?_
             rotate_left
             · (intro W hW; obtain ⟨f1a, f1b, _, _⟩ := RB.facts (hW.2.1); obtain ⟨f2a, f2b, _, _⟩ := RB.facts (hW.2.2); go_simp; try with_reducible rfl)
             simp only [Act.put, List.setIfInBounds_toArray, List.set_cons_zero, List.set_cons_succ])
          | (refine wpGrowS_skip (by simp only [List.getElem?_toArray, List.getElem?_cons_succ, List.getElem?_cons_zero]; rfl) (by rfl) ?_
             simp only [Act.put, List.setIfInBounds_toArray, List.set_cons_zero, List.set_cons_succ]))
      refine wpGrowS_pass hS (by simp only [List.getElem?_toArray, List.getElem?_cons_succ, List.getElem?_cons_zero]; rfl) (by rfl) ?_
      try simp only [Act.put, List.setIfInBounds_toArray, List.set_cons_zero, List.set_cons_succ]
      iterate 3
        (first
          | (refine wpGrowS_float (v := ?_) (by simp only [List.getElem?_toArray, List.getElem?_cons_succ, List.getElem?_cons_zero]; rfl) (by rfl) ?_ ?_
             rotate_left
             · (intro W hW; obtain ⟨f1a, f1b, _, _⟩ := RB.facts (hW.2.1); obtain ⟨f2a, f2b, _, _⟩ := RB.facts (hW.2.2); go_simp; try with_reducible rfl)
             simp only [Act.put, List.setIfInBounds_toArray, List.set_cons_zero, List.set_cons_succ])
          | (refine wpGrowS_skip (by simp only [List.getElem?_toArray, List.getElem?_cons_succ, List.getElem?_cons_zero]; rfl) (by rfl) ?_
             simp only [Act.put, List.setIfInBounds_toArray, List.set_cons_zero, List.set_cons_succ]))
      refine wpGrowS_call (by simp only [List.getElem?_toArray, List.getElem?_cons_succ, List.getElem?_cons_zero]; rfl) (by rfl) fun K hK => ?_
      go_simp
      go_fit (HAW.out _ (hS.1))
      rintro e wn ⟨rfl, hbn⟩
      have hS : Below w.heap.size w wn ∧ RB wn w1.heap.size ⟨xb, xn⟩ ∧ RB wn w2.heap.size ⟨yb, yn⟩ := ⟨beln (hS.1) hbn, RB.next (hS.2.1) hbn, RB.next (hS.2.2) hbn⟩
      go_simp
      refine hK _ _ hS ?_
      clear hK K
      try simp only [Act.put, List.setIfInBounds_toArray, List.set_cons_zero, List.set_cons_succ]
      iterate 2
        (first
          | (refine wpGrowS_float (v := ?_) (by simp only [List.getElem?_toArray, List.getElem?_cons_succ, List.getElem?_cons_zero]; rfl) (by rfl) ?_ ?_
             rotate_left
             · (intro W hW; obtain ⟨f1a, f1b, _, _⟩ := RB.facts (hW.2.1); obtain ⟨f2a, f2b, _, _⟩ := RB.facts (hW.2.2); go_simp; try with_reducible rfl)
             simp only [Act.put, List.setIfInBounds_toArray, List.set_cons_zero, List.set_cons_succ])
          | (refine wpGrowS_skip (by simp only [List.getElem?_toArray, List.getElem?_cons_succ, List.getElem?_cons_zero]; rfl) (by rfl) ?_
             simp only [Act.put, List.setIfInBounds_toArray, List.set_cons_zero, List.set_cons_succ]))
      refine wpGrowS_nil ?_
      have HEND := Lib.hid hS.1
      clear hS hbn HS7
      go_wp2
      go_ret
      exact ⟨rfl, HEND.out⟩
  · have hne := HNE.out rfl
    clear hcxy hcyx HNE HE
    by_cases he : xb = yb
    · subst he
      have hne2 : ¬ xn = yn := fun e => hne ⟨rfl, e⟩
      clear hne
      go_wp2_with fail
      go_upto_region 3 with fail
      have hS : Below w.heap.size w w3.drew ∧ RB w3.drew w1.heap.size ⟨xb, xn⟩ ∧ RB w3.drew w2.heap.size ⟨xb, yn⟩ := ⟨HB.out.drew, HX.out, HY.out⟩
      refine wp_region_growS (S := fun W => Below w.heap.size w W ∧ RB W w1.heap.size ⟨xb, xn⟩ ∧ RB W w2.heap.size ⟨xb, yn⟩) [(0, true), (1, false), (2, true), (3, true), (4, true), (5, false), (6, true), (7, true), (8, true), (9, true), (10, true), (11, false), (12, true), (13, true), (14, true), (15, true), (16, true), (18, true), (19, true), (17, false), (20, false), (21, true), (22, true)] (by kernel_rfl) (by kernel_rfl) (by kernel_rfl) (by kernel_rfl) (by intro c a d v w h; cases d <;> exact h) hS ?_
      iterate 1
        (first
          | (refine wpGrowS_float (v := ?_) (by simp only [List.getElem?_toArray, List.getElem?_cons_zero]; rfl) (by rfl) ?_ ?_
             rotate_left
             · (intro W hW; obtain ⟨f1a, f1b, _, _⟩ := RB.facts (hW.2.1); obtain ⟨f2a, f2b, _, _⟩ := RB.facts (hW.2.2); go_simp; try with_reducible rfl)
             simp only [Act.put, List.setIfInBounds_toArray, List.set_cons_zero, List.set_cons_succ])
          | (refine wpGrowS_skip (by simp only [List.getElem?_toArray, List.getElem?_cons_zero]; rfl) (by rfl) ?_
             simp only [Act.put, List.setIfInBounds_toArray, List.set_cons_zero, List.set_cons_succ]))
      refine wpGrowS_call (by simp only [List.getElem?_toArray, List.getElem?_cons_succ, List.getElem?_cons_zero]; rfl) (by rfl) fun K hK => ?_
      go_simp
      go_fit (HVx.out _)
      rintro e wn ⟨rfl, hbn⟩
      have hS : Below w.heap.size w wn ∧ RB wn w1.heap.size ⟨xb, xn⟩ ∧ RB wn w2.heap.size ⟨xb, yn⟩ := ⟨beln (hS.1) hbn, RB.next (hS.2.1) hbn, RB.next (hS.2.2) hbn⟩
      go_simp
      refine hK _ _ hS ?_
      clear hK K
      try simp only [Act.put, List.setIfInBounds_toArray, List.set_cons_zero, List.set_cons_succ]
      iterate 3
        (first
          | (refine wpGrowS_float (v := ?_) (by simp only [List.getElem?_toArray, List.getElem?_cons_succ, List.getElem?_cons_zero]; rfl) (by rfl) ?_ ?_
             rotate_left
             · (intro W hW; obtain ⟨f1a, f1b, _, _⟩ := RB.facts (hW.2.1); obtain ⟨f2a, f2b, _, _⟩ := RB.facts (hW.2.2); go_simp; try with_reducible rfl)
             simp only [Act.put, List.setIfInBounds_toArray, List.set_cons_zero, List.set_cons_succ])
          | (refine wpGrowS_skip (by simp only [List.getElem?_toArray, List.getElem?_cons_succ, List.getElem?_cons_zero]; rfl) (by rfl) ?_
             simp only [Act.put, List.setIfInBounds_toArray, List.set_cons_zero, List.set_cons_succ]))
      refine wpGrowS_call (by simp only [List.getElem?_toArray, List.getElem?_cons_succ, List.getElem?_cons_zero]; rfl) (by rfl) fun K hK => ?_
      go_simp
      go_fit (HVy.out _)
      rintro e wn ⟨rfl, hbn⟩
      have hS : Below w.heap.size w wn ∧ RB wn w1.heap.size ⟨xb, xn⟩ ∧ RB wn w2.heap.size ⟨xb, yn⟩ := ⟨beln (hS.1) hbn, RB.next (hS.2.1) hbn, RB.next (hS.2.2) hbn⟩
      go_simp
      refine hK _ _ hS ?_
      clear hK K
      try simp only [Act.put, List.setIfInBounds_toArray, List.set_cons_zero, List.set_cons_succ]
      iterate 5
        (first
          | (refine wpGrowS_float (v := ?_) (by simp only [List.getElem?_toArray, List.getElem?_cons_succ, List.getElem?_cons_zero]; rfl) (by rfl) ?_ ?_
             rotate_left
             · (intro W hW; obtain ⟨f1a, f1b, _, _⟩ := RB.facts (hW.2.1); obtain ⟨f2a, f2b, _, _⟩ := RB.facts (hW.2.2); go_simp; try with_reducible rfl)
             simp only [Act.put, List.setIfInBounds_toArray, List.set_cons_zero, List.set_cons_succ])
          | (refine wpGrowS_skip (by simp only [List.getElem?_toArray, List.getElem?_cons_succ, List.getElem?_cons_zero]; rfl) (by rfl) ?_
             simp only [Act.put, List.setIfInBounds_toArray, List.set_cons_zero, List.set_cons_succ]))
      refine wpGrowS_call (by simp only [List.getElem?_toArray, List.getElem?_cons_succ, List.getElem?_cons_zero]; rfl) (by rfl) fun K hK => ?_
      go_simp
      go_fit (HOxx.out _)
      rintro e wn ⟨rfl, hbn⟩
      have hS : Below w.heap.size w wn ∧ RB wn w1.heap.size ⟨xb, xn⟩ ∧ RB wn w2.heap.size ⟨xb, yn⟩ := ⟨beln (hS.1) hbn, RB.next (hS.2.1) hbn, RB.next (hS.2.2) hbn⟩
      go_simp
      refine hK _ _ hS ?_
      clear hK K
      try simp only [Act.put, List.setIfInBounds_toArray, List.set_cons_zero, List.set_cons_succ]
      iterate 7
        (first
          | (refine wpGrowS_float (v := ?_) (by simp only [List.getElem?_toArray, List.getElem?_cons_succ, List.getElem?_cons_zero]; rfl) (by rfl) ?_ ?_
             rotate_left
             · (intro W hW; obtain ⟨f1a, f1b, _, _⟩ := RB.facts (hW.2.1); obtain ⟨f2a, f2b, _, _⟩ := RB.facts (hW.2.2); go_simp; try with_reducible rfl)
             simp only [Act.put, List.setIfInBounds_toArray, List.set_cons_zero, List.set_cons_succ])
          | (refine wpGrowS_skip (by simp only [List.getElem?_toArray, List.getElem?_cons_succ, List.getElem?_cons_zero]; rfl) (by rfl) ?_
             simp only [Act.put, List.setIfInBounds_toArray, List.set_cons_zero, List.set_cons_succ]))
      refine wpGrowS_call (by simp only [List.getElem?_toArray, List.getElem?_cons_succ, List.getElem?_cons_zero]; rfl) (by rfl) fun K hK => ?_
      go_simp
      go_fit (HOxy.out _)
      rintro e wn ⟨rfl, hbn⟩
      have hS : Below w.heap.size w wn ∧ RB wn w1.heap.size ⟨xb, xn⟩ ∧ RB wn w2.heap.size ⟨xb, yn⟩ := ⟨beln (hS.1) hbn, RB.next (hS.2.1) hbn, RB.next (hS.2.2) hbn⟩
      go_simp
      refine hK _ _ hS ?_
      clear hK K
      try simp only [Act.put, List.setIfInBounds_toArray, List.set_cons_zero, List.set_cons_succ]
      refine wpGrowS_call (by simp only [List.getElem?_toArray, List.getElem?_cons_succ, List.getElem?_cons_zero]; rfl) (by rfl) fun K hK => ?_
      go_simp
      go_fit (HOyx.out _)
      rintro e wn ⟨rfl, hbn⟩
      have hS : Below w.heap.size w wn ∧ RB wn w1.heap.size ⟨xb, xn⟩ ∧ RB wn w2.heap.size ⟨xb, yn⟩ := ⟨beln (hS.1) hbn, RB.next (hS.2.1) hbn, RB.next (hS.2.2) hbn⟩
      go_simp
      refine hK _ _ hS ?_
      clear hK K
      try simp only [Act.put, List.setIfInBounds_toArray, List.set_cons_zero, List.set_cons_succ]
      iterate 2
        (first
          | (refine wpGrowS_float (v := ?_) (by simp only [List.getElem?_toArray, List.getElem?_cons_succ, List.getElem?_cons_zero]; rfl) (by rfl) ?_ ?_
             rotate_left
             · (intro W hW; obtain ⟨f1a, f1b, _, _⟩ := RB.facts (hW.2.1); obtain ⟨f2a, f2b, _, _⟩ := RB.facts (hW.2.2); go_simp; try with_reducible rfl)
             simp only [Act.put, List.setIfInBounds_toArray, List.set_cons_zero, List.set_cons_succ])
          | (refine wpGrowS_skip (by simp only [List.getElem?_toArray, List.getElem?_cons_succ, List.getElem?_cons_zero]; rfl) (by rfl) ?_
             simp only [Act.put, List.setIfInBounds_toArray, List.set_cons_zero, List.set_cons_succ]))
      refine wpGrowS_nil ?_
      have HS5 := Lib.hid hS
      clear hS hbn
      generalize wn = w5 at *
      go_upto_region 5 with fail
      have hS : Below w.heap.size w w5.drew ∧ RB w5.drew w1.heap.size ⟨xb, xn⟩ ∧ RB w5.drew w2.heap.size ⟨xb, yn⟩ := ⟨beln (HS5.out.1) (Below.refl _ w5).drew, RB.next (HS5.out.2.1) (Below.refl _ w5).drew, RB.next (HS5.out.2.2) (Below.refl _ w5).drew⟩
      refine wp_region_growS (S := fun W => Below w.heap.size w W ∧ RB W w1.heap.size ⟨xb, xn⟩ ∧ RB W w2.heap.size ⟨xb, yn⟩) [(0, true), (1, true), (3, true), (4, true), (2, false), (5, false), (6, true), (7, true), (8, true), (9, false), (10, true), (11, true)] (by kernel_rfl) (by kernel_rfl) (by kernel_rfl) (by kernel_rfl) (by intro c a d v w h; cases d <;> exact h) hS ?_
      iterate 4
        (first
          | (refine wpGrowS_float (v := ?_) (by simp only [List.getElem?_toArray, List.getElem?_cons_succ, List.getElem?_cons_zero]; rfl) (by rfl) ?_ ?_
             rotate_left
             · (intro W hW; obtain ⟨f1a, f1b, _, _⟩ := RB.facts (hW.2.1); obtain ⟨f2a, f2b, _, _⟩ := RB.facts (hW.2.2); go_simp; try with_reducible rfl)
             simp only [Act.put, List.setIfInBounds_toArray, List.set_cons_zero, List.set_cons_succ])
          | (refine wpGrowS_skip (by simp only [List.getElem?_toArray, List.getElem?_cons_succ, List.getElem?_cons_zero]; rfl) (by rfl) ?_
             simp only [Act.put, List.setIfInBounds_toArray, List.set_cons_zero, List.set_cons_succ]))
      refine wpGrowS_call (by simp only [List.getElem?_toArray, List.getElem?_cons_succ, List.getElem?_cons_zero]; rfl) (by rfl) fun K hK => ?_
      go_simp
      go_fit (HOxy.out _)
      rintro e wn ⟨rfl, hbn⟩
      have hS : Below w.heap.size w wn ∧ RB wn w1.heap.size ⟨xb, xn⟩ ∧ RB wn w2.heap.size ⟨xb, yn⟩ := ⟨beln (hS.1) hbn, RB.next (hS.2.1) hbn, RB.next (hS.2.2) hbn⟩
      go_simp
      refine hK _ _ hS ?_
      clear hK K
      try simp only [Act.put, List.setIfInBounds_toArray, List.set_cons_zero, List.set_cons_succ]
      refine wpGrowS_call (by simp only [List.getElem?_toArray, List.getElem?_cons_succ, List.getElem?_cons_zero]; rfl) (by rfl) fun K hK => ?_
      go_simp
      go_fit (HCxy.out _)
      rintro e wn ⟨rfl, hbn⟩
      have hS : Below w.heap.size w wn ∧ RB wn w1.heap.size ⟨xb, xn⟩ ∧ RB wn w2.heap.size ⟨xb, yn⟩ := ⟨beln (hS.1) hbn, RB.next (hS.2.1) hbn, RB.next (hS.2.2) hbn⟩
      go_simp
      refine hK _ _ hS ?_
      clear hK K
      try simp only [Act.put, List.setIfInBounds_toArray, List.set_cons_zero, List.set_cons_succ]
      iterate 3
        (first
          | (refine wpGrowS_float (v := ?_) (by simp only [List.getElem?_toArray, List.getElem?_cons_succ, List.getElem?_cons_zero]; rfl) (by rfl) ?_ ?_
             rotate_left
             · (intro W hW; obtain ⟨f1a, f1b, _, _⟩ := RB.facts (hW.2.1); obtain ⟨f2a, f2b, _, _⟩ := RB.facts (hW.2.2); go_simp; try with_reducible rfl)
             simp only [Act.put, List.setIfInBounds_toArray, List.set_cons_zero, List.set_cons_succ])
          | (refine wpGrowS_skip (by simp only [List.getElem?_toArray, List.getElem?_cons_succ, List.getElem?_cons_zero]; rfl) (by rfl) ?_
             simp only [Act.put, List.setIfInBounds_toArray, List.set_cons_zero, List.set_cons_succ]))
      refine wpGrowS_pass hS (by simp only [List.getElem?_toArray, List.getElem?_cons_succ, List.getElem?_cons_zero]; rfl) (by rfl) ?_
      try simp only [Act.put, List.setIfInBounds_toArray, List.set_cons_zero, List.set_cons_succ]
      iterate 2
        (first
          | (refine wpGrowS_float (v := ?_) (by simp only [List.getElem?_toArray, List.getElem?_cons_succ, List.getElem?_cons_zero]; rfl) (by rfl) ?_ ?_
             rotate_left
             · (intro W hW; obtain ⟨f1a, f1b, _, _⟩ := RB.facts (hW.2.1); obtain ⟨f2a, f2b, _, _⟩ := RB.facts (hW.2.2); go_simp; try with_reducible rfl)
             simp only [Act.put, List.setIfInBounds_toArray, List.set_cons_zero, List.set_cons_succ])
          | (refine wpGrowS_skip (by simp only [List.getElem?_toArray, List.getElem?_cons_succ, List.getElem?_cons_zero]; rfl) (by rfl) ?_
             simp only [Act.put, List.setIfInBounds_toArray, List.set_cons_zero, List.set_cons_succ]))
      refine wpGrowS_nil ?_
      have HS7 := Lib.hid hS
      clear hS HS5 hbn
      generalize wn = w7 at *
      go_upto_region 7 with fail
      have hS : Below w.heap.size w w7.drew ∧ RB w7.drew w1.heap.size ⟨xb, xn⟩ ∧ RB w7.drew w2.heap.size ⟨xb, yn⟩ := ⟨beln (HS7.out.1) (Below.refl _ w7).drew, RB.next (HS7.out.2.1) (Below.refl _ w7).drew, RB.next (HS7.out.2.2) (Below.refl _ w7).drew⟩
      refine wp_region_growS (S := fun W => Below w.heap.size w W ∧ RB W w1.heap.size ⟨xb, xn⟩ ∧ RB W w2.heap.size ⟨xb, yn⟩) [(0, true), (1, true), (8, true), (9, true), (10, true), (2, false), (3, true), (4, true), (5, true), (6, false), (7, true), (11, true), (12, true), (13, false), (14, true), (15, true)] (by kernel_rfl) (by kernel_rfl) (by kernel_rfl) (by kernel_rfl) (by intro c a d v w h; cases d <;> exact h) hS ?_
      iterate 5
        (first
          | (refine wpGrowS_float (v := ?_) (by simp only [List.getElem?_toArray, List.getElem?_cons_succ, List.getElem?_cons_zero]; rfl) (by rfl) ?_ ?_
             rotate_left
             · (intro W hW; obtain ⟨f1a, f1b, _, _⟩ := RB.facts (hW.2.1); obtain ⟨f2a, f2b, _, _⟩ := RB.facts (hW.2.2); go_simp; try with_reducible rfl)
             simp only [Act.put, List.setIfInBounds_toArray, List.set_cons_zero, List.set_cons_succ])
          | (refine wpGrowS_skip (by simp only [List.getElem?_toArray, List.getElem?_cons_succ, List.getElem?_cons_zero]; rfl) (by rfl) ?_
             simp only [Act.put, List.setIfInBounds_toArray, List.set_cons_zero, List.set_cons_succ]))
      refine wpGrowS_call (by simp only [List.getElem?_toArray, List.getElem?_cons_succ, List.getElem?_cons_zero]; rfl) (by rfl) fun K hK => ?_
      go_simp
      go_fit (HCxy.out _)
      rintro e wn ⟨rfl, hbn⟩
      have hS : Below w.heap.size w wn ∧ RB wn w1.heap.size ⟨xb, xn⟩ ∧ RB wn w2.heap.size ⟨xb, yn⟩ := ⟨beln (hS.1) hbn, RB.next (hS.2.1) hbn, RB.next (hS.2.2) hbn⟩
      go_simp
      refine hK _ _ hS ?_
      clear hK K
      try simp only [Act.put, List.setIfInBounds_toArray, List.set_cons_zero, List.set_cons_succ]
      iterate 3
        (first
          | (refine wpGrowS_float (v := ?_) (by simp only [List.getElem?_toArray, List.getElem?_cons_succ, List.getElem?_cons_zero]; rfl) (by rfl) ?_ ?_
             rotate_left
             · (intro W hW; obtain ⟨f1a, f1b, _, _⟩ := RB.facts (hW.2.1); obtain ⟨f2a, f2b, _, _⟩ := RB.facts (hW.2.2); go_simp; try with_reducible rfl)
             simp only [Act.put, List.setIfInBounds_toArray, List.set_cons_zero, List.set_cons_succ])
          | (refine wpGrowS_skip (by simp only [List.getElem?_toArray, List.getElem?_cons_succ, List.getElem?_cons_zero]; rfl) (by rfl) ?_
             simp only [Act.put, List.setIfInBounds_toArray, List.set_cons_zero, List.set_cons_succ]))
      refine wpGrowS_call (by simp only [List.getElem?_toArray, List.getElem?_cons_succ, List.getElem?_cons_zero]; rfl) (by rfl) fun K hK => ?_
      go_simp
      go_fit (HCyx.out _)
      rintro e wn ⟨rfl, hbn⟩
      have hS : Below w.heap.size w wn ∧ RB wn w1.heap.size ⟨xb, xn⟩ ∧ RB wn w2.heap.size ⟨xb, yn⟩ := ⟨beln (hS.1) hbn, RB.next (hS.2.1) hbn, RB.next (hS.2.2) hbn⟩
      go_simp
      refine hK _ _ hS ?_
      clear hK K
      try simp only [Act.put, List.setIfInBounds_toArray, List.set_cons_zero, List.set_cons_succ]
      iterate 3
        (first
          | (refine wpGrowS_float (v := ?_) (by simp only [List.getElem?_toArray, List.getElem?_cons_succ, List.getElem?_cons_zero]; rfl) (by rfl) ?_ ?_
             rotate_left
             · (intro W hW; obtain ⟨f1a, f1b, _, _⟩ := RB.facts (hW.2.1); obtain ⟨f2a, f2b, _, _⟩ := RB.facts (hW.2.2); go_simp; try with_reducible rfl)
             simp only [Act.put, List.setIfInBounds_toArray, List.set_cons_zero, List.set_cons_succ])
          | (refine wpGrowS_skip (by simp only [List.getElem?_toArray, List.getElem?_cons_succ, List.getElem?_cons_zero]; rfl) (by rfl) ?_
             simp only [Act.put, List.setIfInBounds_toArray, List.set_cons_zero, List.set_cons_succ]))
      refine wpGrowS_call (by simp only [List.getElem?_toArray, List.getElem?_cons_succ, List.getElem?_cons_zero]; rfl) (by rfl) fun K hK => ?_
      go_simp
      go_fit (HAW.out _ (hS.1))
      rintro e wn ⟨rfl, hbn⟩
      have hS : Below w.heap.size w wn ∧ RB wn w1.heap.size ⟨xb, xn⟩ ∧ RB wn w2.heap.size ⟨xb, yn⟩ := ⟨beln (hS.1) hbn, RB.next (hS.2.1) hbn, RB.next (hS.2.2) hbn⟩
      go_simp
      refine hK _ _ hS ?_
      clear hK K
      try simp only [Act.put, List.setIfInBounds_toArray, List.set_cons_zero, List.set_cons_succ]
      iterate 2
        (first
          | (refine wpGrowS_float (v := ?_) (by simp only [List.getElem?_toArray, List.getElem?_cons_succ, List.getElem?_cons_zero]; rfl) (by rfl) ?_ ?_
             rotate_left
             · (intro W hW; obtain ⟨f1a, f1b, _, _⟩ := RB.facts (hW.2.1); obtain ⟨f2a, f2b, _, _⟩ := RB.facts (hW.2.2); go_simp; try with_reducible rfl)
             simp only [Act.put, List.setIfInBounds_toArray, List.set_cons_zero, List.set_cons_succ])
          | (refine wpGrowS_skip (by simp only [List.getElem?_toArray, List.getElem?_cons_succ, List.getElem?_cons_zero]; rfl) (by rfl) ?_
             simp only [Act.put, List.setIfInBounds_toArray, List.set_cons_zero, List.set_cons_succ]))
      refine wpGrowS_nil ?_
      have HEND := Lib.hid hS.1
      clear hS hbn HS7
      go_wp2
      go_ret
      exact ⟨rfl, HEND.out⟩
    · clear hne
      go_wp2_with fail
      go_upto_region 3 with fail
      have hS : Below w.heap.size w w3.drew ∧ RB w3.drew w1.heap.size ⟨xb, xn⟩ ∧ RB w3.drew w2.heap.size ⟨yb, yn⟩ := ⟨HB.out.drew, HX.out, HY.out⟩
      refine wp_region_growS (S := fun W => Below w.heap.size w W ∧ RB W w1.heap.size ⟨xb, xn⟩ ∧ RB W w2.heap.size ⟨yb, yn⟩) [(0, true), (1, false), (2, true), (3, true), (4, true), (5, false), (6, true), (7, true), (8, true), (9, true), (10, true), (11, false), (12, true), (13, true), (14, true), (15, true), (16, true), (18, true), (19, true), (17, false), (20, false), (21, true), (22, true)] (by kernel_rfl) (by kernel_rfl) (by kernel_rfl) (by kernel_rfl) (by intro c a d v w h; cases d <;> exact h) hS ?_
      iterate 1
        (first
          | (refine wpGrowS_float (v := ?_) (by simp only [List.getElem?_toArray, List.getElem?_cons_zero]; rfl) (by rfl) ?_ ?_
             rotate_left
             · (intro W hW; obtain ⟨f1a, f1b, _, _⟩ := RB.facts (hW.2.1); obtain ⟨f2a, f2b, _, _⟩ := RB.facts (hW.2.2); go_simp; try with_reducible rfl)
             simp only [Act.put, List.setIfInBounds_toArray, List.set_cons_zero, List.set_cons_succ])
          | (refine wpGrowS_skip (by simp only [List.getElem?_toArray, List.getElem?_cons_zero]; rfl) (by rfl) ?_
             simp only [Act.put, List.setIfInBounds_toArray, List.set_cons_zero, List.set_cons_succ]))
      refine wpGrowS_call (by simp only [List.getElem?_toArray, List.getElem?_cons_succ, List.getElem?_cons_zero]; rfl) (by rfl) fun K hK => ?_
      go_simp
      go_fit (HVx.out _)
      rintro e wn ⟨rfl, hbn⟩
      have hS : Below w.heap.size w wn ∧ RB wn w1.heap.size ⟨xb, xn⟩ ∧ RB wn w2.heap.size ⟨yb, yn⟩ := ⟨beln (hS.1) hbn, RB.next (hS.2.1) hbn, RB.next (hS.2.2) hbn⟩
      go_simp
      refine hK _ _ hS ?_
      clear hK K
      try simp only [Act.put, List.setIfInBounds_toArray, List.set_cons_zero, List.set_cons_succ]
      iterate 3
        (first
          | (refine wpGrowS_float (v := ?_) (by simp only [List.getElem?_toArray, List.getElem?_cons_succ, List.getElem?_cons_zero]; rfl) (by rfl) ?_ ?_
             rotate_left
             · (intro W hW; obtain ⟨f1a, f1b, _, _⟩ := RB.facts (hW.2.1); obtain ⟨f2a, f2b, _, _⟩ := RB.facts (hW.2.2); go_simp; try with_reducible rfl)
             simp only [Act.put, List.setIfInBounds_toArray, List.set_cons_zero, List.set_cons_succ])
          | (refine wpGrowS_skip (by simp only [List.getElem?_toArray, List.getElem?_cons_succ, List.getElem?_cons_zero]; rfl) (by rfl) ?_
             simp only [Act.put, List.setIfInBounds_toArray, List.set_cons_zero, List.set_cons_succ]))
      refine wpGrowS_call (by simp only [List.getElem?_toArray, List.getElem?_cons_succ, List.getElem?_cons_zero]; rfl) (by rfl) fun K hK => ?_
      go_simp
      go_fit (HVy.out _)
      rintro e wn ⟨rfl, hbn⟩
      have hS : Below w.heap.size w wn ∧ RB wn w1.heap.size ⟨xb, xn⟩ ∧ RB wn w2.heap.size ⟨yb, yn⟩ := ⟨beln (hS.1) hbn, RB.next (hS.2.1) hbn, RB.next (hS.2.2) hbn⟩
      go_simp
      refine hK _ _ hS ?_
      clear hK K
      try simp only [Act.put, List.setIfInBounds_toArray, List.set_cons_zero, List.set_cons_succ]
      iterate 5
        (first
          | (refine wpGrowS_float (v := ?_) (by simp only [List.getElem?_toArray, List.getElem?_cons_succ, List.getElem?_cons_zero]; rfl) (by rfl) ?_ ?_
             rotate_left
             · (intro W hW; obtain ⟨f1a, f1b, _, _⟩ := RB.facts (hW.2.1); obtain ⟨f2a, f2b, _, _⟩ := RB.facts (hW.2.2); go_simp; try with_reducible rfl)
             simp only [Act.put, List.setIfInBounds_toArray, List.set_cons_zero, List.set_cons_succ])
          | (refine wpGrowS_skip (by simp only [List.getElem?_toArray, List.getElem?_cons_succ, List.getElem?_cons_zero]; rfl) (by rfl) ?_
             simp only [Act.put, List.setIfInBounds_toArray, List.set_cons_zero, List.set_cons_succ]))
      refine wpGrowS_call (by simp only [List.getElem?_toArray, List.getElem?_cons_succ, List.getElem?_cons_zero]; rfl) (by rfl) fun K hK => ?_
      go_simp
      go_fit (HOxx.out _)
      rintro e wn ⟨rfl, hbn⟩
      have hS : Below w.heap.size w wn ∧ RB wn w1.heap.size ⟨xb, xn⟩ ∧ RB wn w2.heap.size ⟨yb, yn⟩ := ⟨beln (hS.1) hbn, RB.next (hS.2.1) hbn, RB.next (hS.2.2) hbn⟩
      go_simp
      refine hK _ _ hS ?_
      clear hK K
      try simp only [Act.put, List.setIfInBounds_toArray, List.set_cons_zero, List.set_cons_succ]
      iterate 7
        (first
          | (refine wpGrowS_float (v := ?_) (by simp only [List.getElem?_toArray, List.getElem?_cons_succ, List.getElem?_cons_zero]; rfl) (by rfl) ?_ ?_
             rotate_left
             · (intro W hW; obtain ⟨f1a, f1b, _, _⟩ := RB.facts (hW.2.1); obtain ⟨f2a, f2b, _, _⟩ := RB.facts (hW.2.2); go_simp; try with_reducible rfl)
             simp only [Act.put, List.setIfInBounds_toArray, List.set_cons_zero, List.set_cons_succ])
          | (refine wpGrowS_skip (by simp only [List.getElem?_toArray, List.getElem?_cons_succ, List.getElem?_cons_zero]; rfl) (by rfl) ?_
             simp only [Act.put, List.setIfInBounds_toArray, List.set_cons_zero, List.set_cons_succ]))
      refine wpGrowS_call (by simp only [List.getElem?_toArray, List.getElem?_cons_succ, List.getElem?_cons_zero]; rfl) (by rfl) fun K hK => ?_
      go_simp
      go_fit (HOxy.out _)
      rintro e wn ⟨rfl, hbn⟩
      have hS : Below w.heap.size w wn ∧ RB wn w1.heap.size ⟨xb, xn⟩ ∧ RB wn w2.heap.size ⟨yb, yn⟩ := ⟨beln (hS.1) hbn, RB.next (hS.2.1) hbn, RB.next (hS.2.2) hbn⟩
      go_simp
      refine hK _ _ hS ?_
      clear hK K
      try simp only [Act.put, List.setIfInBounds_toArray, List.set_cons_zero, List.set_cons_succ]
      refine wpGrowS_call (by simp only [List.getElem?_toArray, List.getElem?_cons_succ, List.getElem?_cons_zero]; rfl) (by rfl) fun K hK => ?_
      go_simp
      go_fit (HOyx.out _)
      rintro e wn ⟨rfl, hbn⟩
      have hS : Below w.heap.size w wn ∧ RB wn w1.heap.size ⟨xb, xn⟩ ∧ RB wn w2.heap.size ⟨yb, yn⟩ := ⟨beln (hS.1) hbn, RB.next (hS.2.1) hbn, RB.next (hS.2.2) hbn⟩
      go_simp
      refine hK _ _ hS ?_
      clear hK K
      try simp only [Act.put, List.setIfInBounds_toArray, List.set_cons_zero, List.set_cons_succ]
      iterate 2
        (first
          | (refine wpGrowS_float (v := ?_) (by simp only [List.getElem?_toArray, List.getElem?_cons_succ, List.getElem?_cons_zero]; rfl) (by rfl) ?_ ?_
             rotate_left
             · (intro W hW; obtain ⟨f1a, f1b, _, _⟩ := RB.facts (hW.2.1); obtain ⟨f2a, f2b, _, _⟩ := RB.facts (hW.2.2); go_simp; try with_reducible rfl)
             simp only [Act.put, List.setIfInBounds_toArray, List.set_cons_zero, List.set_cons_succ])
          | (refine wpGrowS_skip (by simp only [List.getElem?_toArray, List.getElem?_cons_succ, List.getElem?_cons_zero]; rfl) (by rfl) ?_
             simp only [Act.put, List.setIfInBounds_toArray, List.set_cons_zero, List.set_cons_succ]))
      refine wpGrowS_nil ?_
      have HS5 := Lib.hid hS
      clear hS hbn
      generalize wn = w5 at *
      go_upto_region 5 with fail
      have hS : Below w.heap.size w w5.drew ∧ RB w5.drew w1.heap.size ⟨xb, xn⟩ ∧ RB w5.drew w2.heap.size ⟨yb, yn⟩ := ⟨beln (HS5.out.1) (Below.refl _ w5).drew, RB.next (HS5.out.2.1) (Below.refl _ w5).drew, RB.next (HS5.out.2.2) (Below.refl _ w5).drew⟩
      refine wp_region_growS (S := fun W => Below w.heap.size w W ∧ RB W w1.heap.size ⟨xb, xn⟩ ∧ RB W w2.heap.size ⟨yb, yn⟩) [(0, true), (1, true), (3, true), (4, true), (2, false), (5, false), (6, true), (7, true), (8, true), (9, false), (10, true), (11, true)] (by kernel_rfl) (by kernel_rfl) (by kernel_rfl) (by kernel_rfl) (by intro c a d v w h; cases d <;> exact h) hS ?_
      iterate 4
        (first
          | (refine wpGrowS_float (v := ?_) (by simp only [List.getElem?_toArray, List.getElem?_cons_succ, List.getElem?_cons_zero]; rfl) (by rfl) ?_ ?_
             rotate_left
             · (intro W hW; obtain ⟨f1a, f1b, _, _⟩ := RB.facts (hW.2.1); obtain ⟨f2a, f2b, _, _⟩ := RB.facts (hW.2.2); go_simp; try with_reducible rfl)
             simp only [Act.put, List.setIfInBounds_toArray, List.set_cons_zero, List.set_cons_succ])
          | (refine wpGrowS_skip (by simp only [List.getElem?_toArray, List.getElem?_cons_succ, List.getElem?_cons_zero]; rfl) (by rfl) ?_
             simp only [Act.put, List.setIfInBounds_toArray, List.set_cons_zero, List.set_cons_succ]))
      refine wpGrowS_call (by simp only [List.getElem?_toArray, List.getElem?_cons_succ, List.getElem?_cons_zero]; rfl) (by rfl) fun K hK => ?_
      go_simp
      go_fit (HOxy.out _)
      rintro e wn ⟨rfl, hbn⟩
      have hS : Below w.heap.size w wn ∧ RB wn w1.heap.size ⟨xb, xn⟩ ∧ RB wn w2.heap.size ⟨yb, yn⟩ := ⟨beln (hS.1) hbn, RB.next (hS.2.1) hbn, RB.next (hS.2.2) hbn⟩
      go_simp
      refine hK _ _ hS ?_
      clear hK K
      try simp only [Act.put, List.setIfInBounds_toArray, List.set_cons_zero, List.set_cons_succ]
      refine wpGrowS_call (by simp only [List.getElem?_toArray, List.getElem?_cons_succ, List.getElem?_cons_zero]; rfl) (by rfl) fun K hK => ?_
      go_simp
      go_fit (HCxy.out _)
      rintro e wn ⟨rfl, hbn⟩
      have hS : Below w.heap.size w wn ∧ RB wn w1.heap.size ⟨xb, xn⟩ ∧ RB wn w2.heap.size ⟨yb, yn⟩ := ⟨beln (hS.1) hbn, RB.next (hS.2.1) hbn, RB.next (hS.2.2) hbn⟩
      go_simp
      refine hK _ _ hS ?_
      clear hK K
      try simp only [Act.put, List.setIfInBounds_toArray, List.set_cons_zero, List.set_cons_succ]
      iterate 3
        (first
          | (refine wpGrowS_float (v := ?_) (by simp only [List.getElem?_toArray, List.getElem?_cons_succ, List.getElem?_cons_zero]; rfl) (by rfl) ?_ ?_
             rotate_left
             · (intro W hW; obtain ⟨f1a, f1b, _, _⟩ := RB.facts (hW.2.1); obtain ⟨f2a, f2b, _, _⟩ := RB.facts (hW.2.2); go_simp; try with_reducible rfl)
             simp only [Act.put, List.setIfInBounds_toArray, List.set_cons_zero, List.set_cons_succ])
          | (refine wpGrowS_skip (by simp only [List.getElem?_toArray, List.getElem?_cons_succ, List.getElem?_cons_zero]; rfl) (by rfl) ?_
             simp only [Act.put, List.setIfInBounds_toArray, List.set_cons_zero, List.set_cons_succ]))
      refine wpGrowS_pass hS (by simp only [List.getElem?_toArray, List.getElem?_cons_succ, List.getElem?_cons_zero]; rfl) (by rfl) ?_
      try simp only [Act.put, List.setIfInBounds_toArray, List.set_cons_zero, List.set_cons_succ]
      iterate 2
        (first
          | (refine wpGrowS_float (v := ?_) (by simp only [List.getElem?_toArray, List.getElem?_cons_succ, List.getElem?_cons_zero]; rfl) (by rfl) ?_ ?_
             rotate_left
             · (intro W hW; obtain ⟨f1a, f1b, _, _⟩ := RB.facts (hW.2.1); obtain ⟨f2a, f2b, _, _⟩ := RB.facts (hW.2.2); go_simp; try with_reducible rfl)
             simp only [Act.put, List.setIfInBounds_toArray, List.set_cons_zero, List.set_cons_succ])
          | (refine wpGrowS_skip (by simp only [List.getElem?_toArray, List.getElem?_cons_succ, List.getElem?_cons_zero]; rfl) (by rfl) ?_
             simp only [Act.put, List.setIfInBounds_toArray, List.set_cons_zero, List.set_cons_succ]))
      refine wpGrowS_nil ?_
      have HS7 := Lib.hid hS
      clear hS HS5 hbn
      generalize wn = w7 at *
      go_upto_region 7 with fail
      have hS : Below w.heap.size w w7.drew ∧ RB w7.drew w1.heap.size ⟨xb, xn⟩ ∧ RB w7.drew w2.heap.size ⟨yb, yn⟩ := ⟨beln (HS7.out.1) (Below.refl _ w7).drew, RB.next (HS7.out.2.1) (Below.refl _ w7).drew, RB.next (HS7.out.2.2) (Below.refl _ w7).drew⟩
      refine wp_region_growS (S := fun W => Below w.heap.size w W ∧ RB W w1.heap.size ⟨xb, xn⟩ ∧ RB W w2.heap.size ⟨yb, yn⟩) [(0, true), (1, true), (8, true), (9, true), (10, true), (2, false), (3, true), (4, true), (5, true), (6, false), (7, true), (11, true), (12, true), (13, false), (14, true), (15, true)] (by kernel_rfl) (by kernel_rfl) (by kernel_rfl) (by kernel_rfl) (by intro c a d v w h; cases d <;> exact h) hS ?_
      iterate 5
        (first
          | (refine wpGrowS_float (v := ?_) (by simp only [List.getElem?_toArray, List.getElem?_cons_succ, List.getElem?_cons_zero]; rfl) (by rfl) ?_ ?_
             rotate_left
             · (intro W hW; obtain ⟨f1a, f1b, _, _⟩ := RB.facts (hW.2.1); obtain ⟨f2a, f2b, _, _⟩ := RB.facts (hW.2.2); go_simp; try with_reducible rfl)
             simp only [Act.put, List.setIfInBounds_toArray, List.set_cons_zero, List.set_cons_succ])
          | (refine wpGrowS_skip (by simp only [List.getElem?_toArray, List.getElem?_cons_succ, List.getElem?_cons_zero]; rfl) (by rfl) ?_
             simp only [Act.put, List.setIfInBounds_toArray, List.set_cons_zero, List.set_cons_succ]))
      refine wpGrowS_call (by simp only [List.getElem?_toArray, List.getElem?_cons_succ, List.getElem?_cons_zero]; rfl) (by rfl) fun K hK => ?_
      go_simp
      go_fit (HCxy.out _)
      rintro e wn ⟨rfl, hbn⟩
      have hS : Below w.heap.size w wn ∧ RB wn w1.heap.size ⟨xb, xn⟩ ∧ RB wn w2.heap.size ⟨yb, yn⟩ := ⟨beln (hS.1) hbn, RB.next (hS.2.1) hbn, RB.next (hS.2.2) hbn⟩
      go_simp
      refine hK _ _ hS ?_
      clear hK K
      try simp only [Act.put, List.setIfInBounds_toArray, List.set_cons_zero, List.set_cons_succ]
      iterate 3
        (first
          | (refine wpGrowS_float (v := ?_) (by simp only [List.getElem?_toArray, List.getElem?_cons_succ, List.getElem?_cons_zero]; rfl) (by rfl) ?_ ?_
             rotate_left
             · (intro W hW; obtain ⟨f1a, f1b, _, _⟩ := RB.facts (hW.2.1); obtain ⟨f2a, f2b, _, _⟩ := RB.facts (hW.2.2); go_simp; try with_reducible rfl)
             simp only [Act.put, List.setIfInBounds_toArray, List.set_cons_zero, List.set_cons_succ])
          | (refine wpGrowS_skip (by simp only [List.getElem?_toArray, List.getElem?_cons_succ, List.getElem?_cons_zero]; rfl) (by rfl) ?_
             simp only [Act.put, List.setIfInBounds_toArray, List.set_cons_zero, List.set_cons_succ]))
      refine wpGrowS_call (by simp only [List.getElem?_toArray, List.getElem?_cons_succ, List.getElem?_cons_zero]; rfl) (by rfl) fun K hK => ?_
      go_simp
      go_fit (HCyx.out _)
      rintro e wn ⟨rfl, hbn⟩
      have hS : Below w.heap.size w wn ∧ RB wn w1.heap.size ⟨xb, xn⟩ ∧ RB wn w2.heap.size ⟨yb, yn⟩ := ⟨beln (hS.1) hbn, RB.next (hS.2.1) hbn, RB.next (hS.2.2) hbn⟩
      go_simp
      refine hK _ _ hS ?_
      clear hK K
      try simp only [Act.put, List.setIfInBounds_toArray, List.set_cons_zero, List.set_cons_succ]
      iterate 3
        (first
          | (refine wpGrowS_float (v := ?_) (by simp only [List.getElem?_toArray, List.getElem?_cons_succ, List.getElem?_cons_zero]; rfl) (by rfl) ?_ ?_
             rotate_left
             · (intro W hW; obtain ⟨f1a, f1b, _, _⟩ := RB.facts (hW.2.1); obtain ⟨f2a, f2b, _, _⟩ := RB.facts (hW.2.2); go_simp; try with_reducible rfl)
             simp only [Act.put, List.setIfInBounds_toArray, List.set_cons_zero, List.set_cons_succ])
          | (refine wpGrowS_skip (by simp only [List.getElem?_toArray, List.getElem?_cons_succ, List.getElem?_cons_zero]; rfl) (by rfl) ?_
             simp only [Act.put, List.setIfInBounds_toArray, List.set_cons_zero, List.set_cons_succ]))
      refine wpGrowS_call (by simp only [List.getElem?_toArray, List.getElem?_cons_succ, List.getElem?_cons_zero]; rfl) (by rfl) fun K hK => ?_
      go_simp
      go_fit (HAW.out _ (hS.1))
      rintro e wn ⟨rfl, hbn⟩
      have hS : Below w.heap.size w wn ∧ RB wn w1.heap.size ⟨xb, xn⟩ ∧ RB wn w2.heap.size ⟨yb, yn⟩ := ⟨beln (hS.1) hbn, RB.next (hS.2.1) hbn, RB.next (hS.2.2) hbn⟩
      go_simp
      refine hK _ _ hS ?_
      clear hK K
      try simp only [Act.put, List.setIfInBounds_toArray, List.set_cons_zero, List.set_cons_succ]
      iterate 2
        (first
          | (refine wpGrowS_float (v := ?_) (by simp only [List.getElem?_toArray, List.getElem?_cons_succ, List.getElem?_cons_zero]; rfl) (by rfl) ?_ ?_
             rotate_left
             · (intro W hW; obtain ⟨f1a, f1b, _, _⟩ := RB.facts (hW.2.1); obtain ⟨f2a, f2b, _, _⟩ := RB.facts (hW.2.2); go_simp; try with_reducible rfl)
             simp only [Act.put, List.setIfInBounds_toArray, List.set_cons_zero, List.set_cons_succ])
          | (refine wpGrowS_skip (by simp only [List.getElem?_toArray, List.getElem?_cons_succ, List.getElem?_cons_zero]; rfl) (by rfl) ?_
             simp only [Act.put, List.setIfInBounds_toArray, List.set_cons_zero, List.set_cons_succ]))
      refine wpGrowS_nil ?_
      have HEND := Lib.hid hS.1
      clear hS hbn HS7
      go_wp2
      go_ret
      exact ⟨rfl, HEND.out⟩
  · obtain ⟨rfl, rfl⟩ : xb = yb ∧ xn = yn := by
      have h := HE.out rfl rfl
      injection h with h1 h2
      exact ⟨h1, h2⟩
    clear hcxy hcyx HNE HE
    go_wp2_with fail
    go_upto_region 3 with fail
    have hS : Below w.heap.size w w3.drew ∧ RB w3.drew w1.heap.size ⟨xb, xn⟩ ∧ RB w3.drew w2.heap.size ⟨xb, xn⟩ := ⟨HB.out.drew, HX.out, HY.out⟩
    refine wp_region_growS (S := fun W => Below w.heap.size w W ∧ RB W w1.heap.size ⟨xb, xn⟩ ∧ RB W w2.heap.size ⟨xb, xn⟩) [(0, true), (1, false), (2, true), (3, true), (4, true), (5, false), (6, true), (7, true), (8, true), (9, true), (10, true), (11, false), (12, true), (13, true), (14, true), (15, true), (16, true), (18, true), (19, true), (17, false), (20, false), (21, true), (22, true)] (by kernel_rfl) (by kernel_rfl) (by kernel_rfl) (by kernel_rfl) (by intro c a d v w h; cases d <;> exact h) hS ?_
    iterate 1
      (first
        | (refine wpGrowS_float (v := ?_) (by simp only [List.getElem?_toArray, List.getElem?_cons_zero]; rfl) (by rfl) ?_ ?_
           rotate_left
           · (intro W hW; obtain ⟨f1a, f1b, _, _⟩ := RB.facts (hW.2.1); obtain ⟨f2a, f2b, _, _⟩ := RB.facts (hW.2.2); go_simp; try with_reducible rfl)
           simp only [Act.put, List.setIfInBounds_toArray, List.set_cons_zero, List.set_cons_succ])
        | (refine wpGrowS_skip (by simp only [List.getElem?_toArray, List.getElem?_cons_zero]; rfl) (by rfl) ?_
           simp only [Act.put, List.setIfInBounds_toArray, List.set_cons_zero, List.set_cons_succ]))
    refine wpGrowS_call (by simp only [List.getElem?_toArray, List.getElem?_cons_succ, List.getElem?_cons_zero]; rfl) (by rfl) fun K hK => ?_
    go_simp
    go_fit (HVx.out _)
    rintro e wn ⟨rfl, hbn⟩
    have hS : Below w.heap.size w wn ∧ RB wn w1.heap.size ⟨xb, xn⟩ ∧ RB wn w2.heap.size ⟨xb, xn⟩ := ⟨beln (hS.1) hbn, RB.next (hS.2.1) hbn, RB.next (hS.2.2) hbn⟩
    go_simp
    refine hK _ _ hS ?_
    clear hK K
    try simp only [Act.put, List.setIfInBounds_toArray, List.set_cons_zero, List.set_cons_succ]
    iterate 3
      (first
        | (refine wpGrowS_float (v := ?_) (by simp only [List.getElem?_toArray, List.getElem?_cons_succ, List.getElem?_cons_zero]; rfl) (by rfl) ?_ ?_
           rotate_left
           · (intro W hW; obtain ⟨f1a, f1b, _, _⟩ := RB.facts (hW.2.1); obtain ⟨f2a, f2b, _, _⟩ := RB.facts (hW.2.2); go_simp; try with_reducible rfl)
           simp only [Act.put, List.setIfInBounds_toArray, List.set_cons_zero, List.set_cons_succ])
        | (refine wpGrowS_skip (by simp only [List.getElem?_toArray, List.getElem?_cons_succ, List.getElem?_cons_zero]; rfl) (by rfl) ?_
           simp only [Act.put, List.setIfInBounds_toArray, List.set_cons_zero, List.set_cons_succ]))
    refine wpGrowS_call (by simp only [List.getElem?_toArray, List.getElem?_cons_succ, List.getElem?_cons_zero]; rfl) (by rfl) fun K hK => ?_
    go_simp
    go_fit (HVy.out _)
    rintro e wn ⟨rfl, hbn⟩
    have hS : Below w.heap.size w wn ∧ RB wn w1.heap.size ⟨xb, xn⟩ ∧ RB wn w2.heap.size ⟨xb, xn⟩ := ⟨beln (hS.1) hbn, RB.next (hS.2.1) hbn, RB.next (hS.2.2) hbn⟩
    go_simp
    refine hK _ _ hS ?_
    clear hK K
    try simp only [Act.put, List.setIfInBounds_toArray, List.set_cons_zero, List.set_cons_succ]
    iterate 5
      (first
        | (refine wpGrowS_float (v := ?_) (by simp only [List.getElem?_toArray, List.getElem?_cons_succ, List.getElem?_cons_zero]; rfl) (by rfl) ?_ ?_
           rotate_left
           · (intro W hW; obtain ⟨f1a, f1b, _, _⟩ := RB.facts (hW.2.1); obtain ⟨f2a, f2b, _, _⟩ := RB.facts (hW.2.2); go_simp; try with_reducible rfl)
           simp only [Act.put, List.setIfInBounds_toArray, List.set_cons_zero, List.set_cons_succ])
        | (refine wpGrowS_skip (by simp only [List.getElem?_toArray, List.getElem?_cons_succ, List.getElem?_cons_zero]; rfl) (by rfl) ?_
           simp only [Act.put, List.setIfInBounds_toArray, List.set_cons_zero, List.set_cons_succ]))
    refine wpGrowS_call (by simp only [List.getElem?_toArray, List.getElem?_cons_succ, List.getElem?_cons_zero]; rfl) (by rfl) fun K hK => ?_
    go_simp
    go_fit (HOxx.out _)
    rintro e wn ⟨rfl, hbn⟩
    have hS : Below w.heap.size w wn ∧ RB wn w1.heap.size ⟨xb, xn⟩ ∧ RB wn w2.heap.size ⟨xb, xn⟩ := ⟨beln (hS.1) hbn, RB.next (hS.2.1) hbn, RB.next (hS.2.2) hbn⟩
    go_simp
    refine hK _ _ hS ?_
    clear hK K
    try simp only [Act.put, List.setIfInBounds_toArray, List.set_cons_zero, List.set_cons_succ]
    iterate 7
      (first
        | (refine wpGrowS_float (v := ?_) (by simp only [List.getElem?_toArray, List.getElem?_cons_succ, List.getElem?_cons_zero]; rfl) (by rfl) ?_ ?_
           rotate_left
           · (intro W hW; obtain ⟨f1a, f1b, _, _⟩ := RB.facts (hW.2.1); obtain ⟨f2a, f2b, _, _⟩ := RB.facts (hW.2.2); go_simp; try with_reducible rfl)
           simp only [Act.put, List.setIfInBounds_toArray, List.set_cons_zero, List.set_cons_succ])
        | (refine wpGrowS_skip (by simp only [List.getElem?_toArray, List.getElem?_cons_succ, List.getElem?_cons_zero]; rfl) (by rfl) ?_
           simp only [Act.put, List.setIfInBounds_toArray, List.set_cons_zero, List.set_cons_succ]))
    refine wpGrowS_call (by simp only [List.getElem?_toArray, List.getElem?_cons_succ, List.getElem?_cons_zero]; rfl) (by rfl) fun K hK => ?_
    go_simp
    go_fit (HOxy.out _)
    rintro e wn ⟨rfl, hbn⟩
    have hS : Below w.heap.size w wn ∧ RB wn w1.heap.size ⟨xb, xn⟩ ∧ RB wn w2.heap.size ⟨xb, xn⟩ := ⟨beln (hS.1) hbn, RB.next (hS.2.1) hbn, RB.next (hS.2.2) hbn⟩
    go_simp
    refine hK _ _ hS ?_
    clear hK K
    try simp only [Act.put, List.setIfInBounds_toArray, List.set_cons_zero, List.set_cons_succ]
    refine wpGrowS_call (by simp only [List.getElem?_toArray, List.getElem?_cons_succ, List.getElem?_cons_zero]; rfl) (by rfl) fun K hK => ?_
    go_simp
    go_fit (HOyx.out _)
    rintro e wn ⟨rfl, hbn⟩
    have hS : Below w.heap.size w wn ∧ RB wn w1.heap.size ⟨xb, xn⟩ ∧ RB wn w2.heap.size ⟨xb, xn⟩ := ⟨beln (hS.1) hbn, RB.next (hS.2.1) hbn, RB.next (hS.2.2) hbn⟩
    go_simp
    refine hK _ _ hS ?_
    clear hK K
    try simp only [Act.put, List.setIfInBounds_toArray, List.set_cons_zero, List.set_cons_succ]
    iterate 2
      (first
        | (refine wpGrowS_float (v := ?_) (by simp only [List.getElem?_toArray, List.getElem?_cons_succ, List.getElem?_cons_zero]; rfl) (by rfl) ?_ ?_
           rotate_left
           · (intro W hW; obtain ⟨f1a, f1b, _, _⟩ := RB.facts (hW.2.1); obtain ⟨f2a, f2b, _, _⟩ := RB.facts (hW.2.2); go_simp; try with_reducible rfl)
           simp only [Act.put, List.setIfInBounds_toArray, List.set_cons_zero, List.set_cons_succ])
        | (refine wpGrowS_skip (by simp only [List.getElem?_toArray, List.getElem?_cons_succ, List.getElem?_cons_zero]; rfl) (by rfl) ?_
           simp only [Act.put, List.setIfInBounds_toArray, List.set_cons_zero, List.set_cons_succ]))
    refine wpGrowS_nil ?_
    have HS5 := Lib.hid hS
    clear hS hbn
    generalize wn = w5 at *
    go_upto_region 5 with fail
    have hS : Below w.heap.size w w5.drew ∧ RB w5.drew w1.heap.size ⟨xb, xn⟩ ∧ RB w5.drew w2.heap.size ⟨xb, xn⟩ := ⟨beln (HS5.out.1) (Below.refl _ w5).drew, RB.next (HS5.out.2.1) (Below.refl _ w5).drew, RB.next (HS5.out.2.2) (Below.refl _ w5).drew⟩
    refine wp_region_growS (S := fun W => Below w.heap.size w W ∧ RB W w1.heap.size ⟨xb, xn⟩ ∧ RB W w2.heap.size ⟨xb, xn⟩) [(0, true), (1, true), (3, true), (4, true), (2, false), (5, false), (6, true), (7, true), (8, true), (9, false), (10, true), (11, true)] (by kernel_rfl) (by kernel_rfl) (by kernel_rfl) (by kernel_rfl) (by intro c a d v w h; cases d <;> exact h) hS ?_
    iterate 4
      (first
        | (refine wpGrowS_float (v := ?_) (by simp only [List.getElem?_toArray, List.getElem?_cons_succ, List.getElem?_cons_zero]; rfl) (by rfl) ?_ ?_
           rotate_left
           · (intro W hW; obtain ⟨f1a, f1b, _, _⟩ := RB.facts (hW.2.1); obtain ⟨f2a, f2b, _, _⟩ := RB.facts (hW.2.2); go_simp; try with_reducible rfl)
           simp only [Act.put, List.setIfInBounds_toArray, List.set_cons_zero, List.set_cons_succ])
        | (refine wpGrowS_skip (by simp only [List.getElem?_toArray, List.getElem?_cons_succ, List.getElem?_cons_zero]; rfl) (by rfl) ?_
           simp only [Act.put, List.setIfInBounds_toArray, List.set_cons_zero, List.set_cons_succ]))
    refine wpGrowS_call (by simp only [List.getElem?_toArray, List.getElem?_cons_succ, List.getElem?_cons_zero]; rfl) (by rfl) fun K hK => ?_
    go_simp
    go_fit (HOxy.out _)
    rintro e wn ⟨rfl, hbn⟩
    have hS : Below w.heap.size w wn ∧ RB wn w1.heap.size ⟨xb, xn⟩ ∧ RB wn w2.heap.size ⟨xb, xn⟩ := ⟨beln (hS.1) hbn, RB.next (hS.2.1) hbn, RB.next (hS.2.2) hbn⟩
    go_simp
    refine hK _ _ hS ?_
    clear hK K
    try simp only [Act.put, List.setIfInBounds_toArray, List.set_cons_zero, List.set_cons_succ]
    refine wpGrowS_call (by simp only [List.getElem?_toArray, List.getElem?_cons_succ, List.getElem?_cons_zero]; rfl) (by rfl) fun K hK => ?_
    go_simp
    go_fit (HCxy.out _)
    rintro e wn ⟨rfl, hbn⟩
    have hS : Below w.heap.size w wn ∧ RB wn w1.heap.size ⟨xb, xn⟩ ∧ RB wn w2.heap.size ⟨xb, xn⟩ := ⟨beln (hS.1) hbn, RB.next (hS.2.1) hbn, RB.next (hS.2.2) hbn⟩
    go_simp
    refine hK _ _ hS ?_
    clear hK K
    try simp only [Act.put, List.setIfInBounds_toArray, List.set_cons_zero, List.set_cons_succ]
    iterate 3
      (first
        | (refine wpGrowS_float (v := ?_) (by simp only [List.getElem?_toArray, List.getElem?_cons_succ, List.getElem?_cons_zero]; rfl) (by rfl) ?_ ?_
           rotate_left
           · (intro W hW; obtain ⟨f1a, f1b, _, _⟩ := RB.facts (hW.2.1); obtain ⟨f2a, f2b, _, _⟩ := RB.facts (hW.2.2); go_simp; try with_reducible rfl)
           simp only [Act.put, List.setIfInBounds_toArray, List.set_cons_zero, List.set_cons_succ])
        | (refine wpGrowS_skip (by simp only [List.getElem?_toArray, List.getElem?_cons_succ, List.getElem?_cons_zero]; rfl) (by rfl) ?_
           simp only [Act.put, List.setIfInBounds_toArray, List.set_cons_zero, List.set_cons_succ]))
    refine wpGrowS_pass hS (by simp only [List.getElem?_toArray, List.getElem?_cons_succ, List.getElem?_cons_zero]; rfl) (by rfl) ?_
    try simp only [Act.put, List.setIfInBounds_toArray, List.set_cons_zero, List.set_cons_succ]
    iterate 2
      (first
        | (refine wpGrowS_float (v := ?_) (by simp only [List.getElem?_toArray, List.getElem?_cons_succ, List.getElem?_cons_zero]; rfl) (by rfl) ?_ ?_
           rotate_left
           · (intro W hW; obtain ⟨f1a, f1b, _, _⟩ := RB.facts (hW.2.1); obtain ⟨f2a, f2b, _, _⟩ := RB.facts (hW.2.2); go_simp; try with_reducible rfl)
           simp only [Act.put, List.setIfInBounds_toArray, List.set_cons_zero, List.set_cons_succ])
        | (refine wpGrowS_skip (by simp only [List.getElem?_toArray, List.getElem?_cons_succ, List.getElem?_cons_zero]; rfl) (by rfl) ?_
           simp only [Act.put, List.setIfInBounds_toArray, List.set_cons_zero, List.set_cons_succ]))
    refine wpGrowS_nil ?_
    have HS7 := Lib.hid hS
    clear hS HS5 hbn
    generalize wn = w7 at *
    go_upto_region 7 with fail
    have hS : Below w.heap.size w w7.drew ∧ RB w7.drew w1.heap.size ⟨xb, xn⟩ ∧ RB w7.drew w2.heap.size ⟨xb, xn⟩ := ⟨beln (HS7.out.1) (Below.refl _ w7).drew, RB.next (HS7.out.2.1) (Below.refl _ w7).drew, RB.next (HS7.out.2.2) (Below.refl _ w7).drew⟩
    refine wp_region_growS (S := fun W => Below w.heap.size w W ∧ RB W w1.heap.size ⟨xb, xn⟩ ∧ RB W w2.heap.size ⟨xb, xn⟩) [(0, true), (1, true), (8, true), (9, true), (10, true), (2, false), (3, true), (4, true), (5, true), (6, false), (7, true), (11, true), (12, true), (13, false), (14, true), (15, true)] (by kernel_rfl) (by kernel_rfl) (by kernel_rfl) (by kernel_rfl) (by intro c a d v w h; cases d <;> exact h) hS ?_
    iterate 5
      (first
        | (refine wpGrowS_float (v := ?_) (by simp only [List.getElem?_toArray, List.getElem?_cons_succ, List.getElem?_cons_zero]; rfl) (by rfl) ?_ ?_
           rotate_left
           · (intro W hW; obtain ⟨f1a, f1b, _, _⟩ := RB.facts (hW.2.1); obtain ⟨f2a, f2b, _, _⟩ := RB.facts (hW.2.2); go_simp; try with_reducible rfl)
           simp only [Act.put, List.setIfInBounds_toArray, List.set_cons_zero, List.set_cons_succ])
        | (refine wpGrowS_skip (by simp only [List.getElem?_toArray, List.getElem?_cons_succ, List.getElem?_cons_zero]; rfl) (by rfl) ?_
           simp only [Act.put, List.setIfInBounds_toArray, List.set_cons_zero, List.set_cons_succ]))
    refine wpGrowS_call (by simp only [List.getElem?_toArray, List.getElem?_cons_succ, List.getElem?_cons_zero]; rfl) (by rfl) fun K hK => ?_
    go_simp
    go_fit (HCxy.out _)
    rintro e wn ⟨rfl, hbn⟩
    have hS : Below w.heap.size w wn ∧ RB wn w1.heap.size ⟨xb, xn⟩ ∧ RB wn w2.heap.size ⟨xb, xn⟩ := ⟨beln (hS.1) hbn, RB.next (hS.2.1) hbn, RB.next (hS.2.2) hbn⟩
    go_simp
    refine hK _ _ hS ?_
    clear hK K
    try simp only [Act.put, List.setIfInBounds_toArray, List.set_cons_zero, List.set_cons_succ]
    iterate 3
      (first
        | (refine wpGrowS_float (v := ?_) (by simp only [List.getElem?_toArray, List.getElem?_cons_succ, List.getElem?_cons_zero]; rfl) (by rfl) ?_ ?_
           rotate_left
           · (intro W hW; obtain ⟨f1a, f1b, _, _⟩ := RB.facts (hW.2.1); obtain ⟨f2a, f2b, _, _⟩ := RB.facts (hW.2.2); go_simp; try with_reducible rfl)
           simp only [Act.put, List.setIfInBounds_toArray, List.set_cons_zero, List.set_cons_succ])
        | (refine wpGrowS_skip (by simp only [List.getElem?_toArray, List.getElem?_cons_succ, List.getElem?_cons_zero]; rfl) (by rfl) ?_
           simp only [Act.put, List.setIfInBounds_toArray, List.set_cons_zero, List.set_cons_succ]))
    refine wpGrowS_call (by simp only [List.getElem?_toArray, List.getElem?_cons_succ, List.getElem?_cons_zero]; rfl) (by rfl) fun K hK => ?_
    go_simp
    go_fit (HCyx.out _)
    rintro e wn ⟨rfl, hbn⟩
    have hS : Below w.heap.size w wn ∧ RB wn w1.heap.size ⟨xb, xn⟩ ∧ RB wn w2.heap.size ⟨xb, xn⟩ := ⟨beln (hS.1) hbn, RB.next (hS.2.1) hbn, RB.next (hS.2.2) hbn⟩
    go_simp
    refine hK _ _ hS ?_
    clear hK K
    try simp only [Act.put, List.setIfInBounds_toArray, List.set_cons_zero, List.set_cons_succ]
    iterate 3
      (first
        | (refine wpGrowS_float (v := ?_) (by simp only [List.getElem?_toArray, List.getElem?_cons_succ, List.getElem?_cons_zero]; rfl) (by rfl) ?_ ?_
           rotate_left
           · (intro W hW; obtain ⟨f1a, f1b, _, _⟩ := RB.facts (hW.2.1); obtain ⟨f2a, f2b, _, _⟩ := RB.facts (hW.2.2); go_simp; try with_reducible rfl)
           simp only [Act.put, List.setIfInBounds_toArray, List.set_cons_zero, List.set_cons_succ])
        | (refine wpGrowS_skip (by simp only [List.getElem?_toArray, List.getElem?_cons_succ, List.getElem?_cons_zero]; rfl) (by rfl) ?_
           simp only [Act.put, List.setIfInBounds_toArray, List.set_cons_zero, List.set_cons_succ]))
    refine wpGrowS_call (by simp only [List.getElem?_toArray, List.getElem?_cons_succ, List.getElem?_cons_zero]; rfl) (by rfl) fun K hK => ?_
    go_simp
    go_fit (HAW.out _ (hS.1))
    rintro e wn ⟨rfl, hbn⟩
    have hS : Below w.heap.size w wn ∧ RB wn w1.heap.size ⟨xb, xn⟩ ∧ RB wn w2.heap.size ⟨xb, xn⟩ := ⟨beln (hS.1) hbn, RB.next (hS.2.1) hbn, RB.next (hS.2.2) hbn⟩
    go_simp
    refine hK _ _ hS ?_
    clear hK K
    try simp only [Act.put, List.setIfInBounds_toArray, List.set_cons_zero, List.set_cons_succ]
    iterate 2
      (first
        | (refine wpGrowS_float (v := ?_) (by simp only [List.getElem?_toArray, List.getElem?_cons_succ, List.getElem?_cons_zero]; rfl) (by rfl) ?_ ?_
           rotate_left
           · (intro W hW; obtain ⟨f1a, f1b, _, _⟩ := RB.facts (hW.2.1); obtain ⟨f2a, f2b, _, _⟩ := RB.facts (hW.2.2); go_simp; try with_reducible rfl)
           simp only [Act.put, List.setIfInBounds_toArray, List.set_cons_zero, List.set_cons_succ])
        | (refine wpGrowS_skip (by simp only [List.getElem?_toArray, List.getElem?_cons_succ, List.getElem?_cons_zero]; rfl) (by rfl) ?_
           simp only [Act.put, List.setIfInBounds_toArray, List.set_cons_zero, List.set_cons_succ]))
    refine wpGrowS_nil ?_
    have HEND := Lib.hid hS.1
    clear hS hbn HS7
    go_wp2
    go_ret
    exact ⟨rfl, HEND.out⟩
end Go.Proofs.YtlndafkmihdbmaaDoor
