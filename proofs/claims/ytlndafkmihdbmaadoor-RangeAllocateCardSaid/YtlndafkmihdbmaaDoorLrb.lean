/-
  The laws RangeCoveredExact, RangeFreeExact and RangeFindExact return true.
  Conditions: none.
-/
import Derived.Test.YtlndafkmihdbmaaDoorRgl
namespace Go.Proofs.YtlndafkmihdbmaaDoor
open Go.RowKit

/-- A slice of ranges that is read, of whatever length. -/
structure RRow (w : World) (B : Nat) (A : Option Addr) (len cap : Nat) (l : List GR) : Prop where
  count : l.length = len
  le : len ≤ cap
  row : GRow GR.cells 2 w B A l
set_option maxRecDepth 20000 in
theorem lcovEx (A : Option Addr) (len cap : Nat) (l : List GR) (w : World) (h : RRow w w.heap.size A len cap l) (hG : T10 w) :
    Calls Tryd.prog 6 #[.slice A len cap] w fun e w' => e = .returned (.bool true) ∧ Below w.heap.size w w' := by
  have HAW := Lib.hid fun W hb => awake10 W (T10.next hG hb)
  by_cases h64 : 64 < len
  · have f0 : decide ((64 : Int) < len) = true := by simp; omega
    have f1 : (64 : Int) < len := by omega
    clear h
    go_enter Tryd.func6, Tryd.ntmps6
    go_wp2_with fail
    go_fit (HAW.out _ (Below.refl _ _))
    rintro e w1 ⟨rfl, hb1⟩
    have HB1 := Lib.hid hb1
    clear hb1
    go_wp2
    go_ret
    exact ⟨rfl, HB1.out⟩
  · have f0 : decide ((64 : Int) < len) = false := by simp; omega
    have f1 : ¬ (64 : Int) < len := by omega
    obtain ⟨rfl, _, hrow⟩ := h
    have HCP := Lib.hid (copied_any l A cap w hrow (by omega))
    have HR := Lib.hid hrow
    have HPC := Lib.hid fun A c W h => pCov_any l A c W h (by omega)
    have HRC := Lib.hid fun A c W h => rCov_any l A c W h (by omega)
    generalize covL l = q at *
    clear hrow
    go_enter Tryd.func6, Tryd.ntmps6
    go_wp2_with fail
    go_fit HCP.out
    rintro e w1 ⟨v1, rfl, ho1, hb1⟩
    obtain ⟨A1, c1, rfl, hc1, hm1, hr1⟩ := ho1.row GR.len
    have HR1 := Lib.hid (HPC.out A1 c1 w1 hr1)
    have HRW1 := Lib.hid (HR.out.next hb1)
    have HB1 := Lib.hid hb1
    clear ho1 hc1 hm1 hr1 hb1
    go_wp2_with fail
    go_fit HR1.out
    rintro e w2 ⟨rfl, hb2⟩
    have HR2 := Lib.hid (HRC.out A cap w2 (HRW1.out.next hb2))
    have HB2 := Lib.hid (beln HB1.out hb2)
    clear hb2
    go_wp2_with fail
    go_fit HR2.out
    rintro e w3 ⟨rfl, hb3⟩
    have HB3 := Lib.hid (beln HB2.out hb3)
    clear hb3
    go_wp2_with fail
    go_fit (HAW.out _ (HB3.out))
    rintro e w4 ⟨rfl, hb4⟩
    have HB4 := Lib.hid (beln HB3.out hb4)
    clear hb4
    go_wp2
    go_ret
    exact ⟨rfl, HB4.out⟩
set_option maxRecDepth 20000 in
set_option maxHeartbeats 2000000 in
theorem lfreeEx (r : GR) (A : Option Addr) (len cap : Nat) (l : List GR) (w : World) (h : RRow w w.heap.size A len cap l) (hG : T10 w) :
    Calls Tryd.prog 4 #[r.val, .slice A len cap] w fun e w' => e = .returned (.bool true) ∧ Below w.heap.size w w' := by
  have HAW := Lib.hid fun W hb => awake10 W (T10.next hG hb)
  by_cases h64 : 64 < len
  · have f0 : decide ((64 : Int) < len) = true := by simp; omega
    have f1 : (64 : Int) < len := by omega
    clear h
    simp only [GR.val]
    go_enter Tryd.func4, Tryd.ntmps4
    go_wp2_with fail
    go_fit (HAW.out _ (belt (Below.refl _ w) _))
    rintro e w1 ⟨rfl, hb1⟩
    have HB1 := Lib.hid (bela (Below.refl _ w) hb1)
    clear hb1
    go_wp2
    go_ret
    exact ⟨rfl, HB1.out⟩
  · have f0 : decide ((64 : Int) < len) = false := by simp; omega
    have f1 : ¬ (64 : Int) < len := by omega
    obtain ⟨rfl, _, hrow⟩ := h
    have HCP := Lib.hid fun W h => copied_any l A cap W h (by omega)
    have HPF := Lib.hid fun A c W h hb => pFree_any r l A c W h (by omega) (T10.next hG hb)
    have HRF := Lib.hid fun A c W h => rFreeL_any r l A c W h (by omega)
    have HLL := Lib.hid (freeL_len r l)
    have HR := Lib.hid (hrow.next (belt (Below.refl _ w) (.cells #[.int .i64 r.base, .int .i64 r.bits] 23)))
    have HX := Lib.hid (RB.new w r)
    generalize freeL r l = fl at *
    have HSM := Lib.hid fun A B c d W h1 h2 => rSame_any fl fl A B c d W h1 h2 HLL.out HLL.out
    simp only [decide_true] at HSM
    obtain ⟨rb, rn⟩ := r
    simp only [GR.val] at *
    clear hrow
    go_enter Tryd.func4, Tryd.ntmps4
    go_upto_region 3 with fail
    generalize hw2 : (w.alloc (.cells #[.int .i64 rb, .int .i64 rn] 23)) = w1 at *
    have hbw : Below w.heap.size w w1 := by rw [← hw2]; exact belt (Below.refl _ w) _
    have hd : Below w1.heap.size w1 w1.drew := (Below.refl _ w1).drew
    have hS : Below w.heap.size w w1.drew ∧ RB w1.drew w.heap.size ⟨rb, rn⟩ ∧ GRow GR.cells 2 w1.drew w1.drew.heap.size A l := ⟨beln hbw hd, RB.next HX.out hd, GRow.next HR.out hd⟩
    clear hbw hd
    refine wp_region_growS (S := fun W => Below w.heap.size w W ∧ RB W w.heap.size ⟨rb, rn⟩ ∧ GRow GR.cells 2 W W.heap.size A l) [(0, true), (1, true), (4, true), (5, true), (2, false), (3, false), (6, false), (7, false), (8, true), (9, false), (10, true), (11, true)] (by kernel_rfl) (by kernel_rfl) (by kernel_rfl) (by kernel_rfl) (by intro c a d v w h; cases d <;> exact h) hS ?_
    iterate 4
      (first
        | (refine wpGrowS_float (v := ?_) (by simp only [List.getElem?_toArray, List.getElem?_cons_succ, List.getElem?_cons_zero]; rfl) (by rfl) ?_ ?_
           rotate_left
           · (intro W hW; obtain ⟨f1a, f1b, _, _⟩ := RB.facts (hW.2.1); go_simp; try with_reducible rfl)
           simp only [Act.put, List.setIfInBounds_toArray, List.set_cons_zero, List.set_cons_succ])
        | (refine wpGrowS_skip (by simp only [List.getElem?_toArray, List.getElem?_cons_succ, List.getElem?_cons_zero]; rfl) (by rfl) ?_
           simp only [Act.put, List.setIfInBounds_toArray, List.set_cons_zero, List.set_cons_succ]))
    refine wpGrowS_call (by simp only [List.getElem?_toArray, List.getElem?_cons_succ, List.getElem?_cons_zero]; rfl) (by rfl) fun K hK => ?_
    go_simp
    go_fit (HCP.out _ (hS.2.2))
    rintro e wn ⟨v1, rfl, ho1, hbn⟩
    have hS : Below w.heap.size w wn ∧ RB wn w.heap.size ⟨rb, rn⟩ ∧ GRow GR.cells 2 wn wn.heap.size A l := ⟨beln (hS.1) hbn, RB.next (hS.2.1) hbn, GRow.next (hS.2.2) hbn⟩
    obtain ⟨A1, c1, rfl, hc1, hm1, hr1⟩ := ho1.row GR.len
    go_simp
    refine hK _ _ hS ?_
    clear hK K
    try simp only [Act.put, List.setIfInBounds_toArray, List.set_cons_zero, List.set_cons_succ]
    refine wpGrowS_call (by simp only [List.getElem?_toArray, List.getElem?_cons_succ, List.getElem?_cons_zero]; rfl) (by rfl) fun K hK => ?_
    go_simp
    go_fit (HPF.out A1 c1 _ hr1 (hS.1))
    rintro e wn ⟨v2, rfl, ho2, hbn⟩
    have hS : Below w.heap.size w wn ∧ RB wn w.heap.size ⟨rb, rn⟩ ∧ GRow GR.cells 2 wn wn.heap.size A l := ⟨beln (hS.1) hbn, RB.next (hS.2.1) hbn, GRow.next (hS.2.2) hbn⟩
    go_simp
    refine hK _ _ hS ?_
    clear hK K
    try simp only [Act.put, List.setIfInBounds_toArray, List.set_cons_zero, List.set_cons_succ]
    refine wpGrowS_call (by simp only [List.getElem?_toArray, List.getElem?_cons_succ, List.getElem?_cons_zero]; rfl) (by rfl) fun K hK => ?_
    go_simp
    go_fit (HRF.out A cap _ (hS.2.2))
    rintro e wn ⟨v3, rfl, ho3, hbn⟩
    have hS : Below w.heap.size w wn ∧ RB wn w.heap.size ⟨rb, rn⟩ ∧ GRow GR.cells 2 wn wn.heap.size A l := ⟨beln (hS.1) hbn, RB.next (hS.2.1) hbn, GRow.next (hS.2.2) hbn⟩
    have ho2 := OwnG.next ho2 hbn
    obtain ⟨A2, c2, rfl, hc2, hm2, hr2⟩ := ho2.row GR.len
    obtain ⟨A3, c3, rfl, hc3, hm3, hr3⟩ := ho3.row GR.len
    go_simp
    refine hK _ _ hS ?_
    clear hK K
    try simp only [Act.put, List.setIfInBounds_toArray, List.set_cons_zero, List.set_cons_succ]
    refine wpGrowS_call (by simp only [List.getElem?_toArray, List.getElem?_cons_succ, List.getElem?_cons_zero]; rfl) (by rfl) fun K hK => ?_
    go_simp
    go_fit (HSM.out A2 A3 c2 c3 _ hr2 hr3)
    rintro e wn ⟨rfl, hbn⟩
    have hS : Below w.heap.size w wn ∧ RB wn w.heap.size ⟨rb, rn⟩ ∧ GRow GR.cells 2 wn wn.heap.size A l := ⟨beln (hS.1) hbn, RB.next (hS.2.1) hbn, GRow.next (hS.2.2) hbn⟩
    go_simp
    refine hK _ _ hS ?_
    clear hK K
    try simp only [Act.put, List.setIfInBounds_toArray, List.set_cons_zero, List.set_cons_succ]
    iterate 1
      (first
        | (refine wpGrowS_float (v := ?_) (by simp only [List.getElem?_toArray, List.getElem?_cons_succ, List.getElem?_cons_zero]; rfl) (by rfl) ?_ ?_
           rotate_left
           · (intro W hW; obtain ⟨f1a, f1b, _, _⟩ := RB.facts (hW.2.1); go_simp; try with_reducible rfl)
           simp only [Act.put, List.setIfInBounds_toArray, List.set_cons_zero, List.set_cons_succ])
        | (refine wpGrowS_skip (by simp only [List.getElem?_toArray, List.getElem?_cons_succ, List.getElem?_cons_zero]; rfl) (by rfl) ?_
           simp only [Act.put, List.setIfInBounds_toArray, List.set_cons_zero, List.set_cons_succ]))
    refine wpGrowS_call (by simp only [List.getElem?_toArray, List.getElem?_cons_succ, List.getElem?_cons_zero]; rfl) (by rfl) fun K hK => ?_
    go_simp
    go_fit (HAW.out _ (hS.1))
    rintro e wn ⟨rfl, hbn⟩
    have hS : Below w.heap.size w wn ∧ RB wn w.heap.size ⟨rb, rn⟩ ∧ GRow GR.cells 2 wn wn.heap.size A l := ⟨beln (hS.1) hbn, RB.next (hS.2.1) hbn, GRow.next (hS.2.2) hbn⟩
    go_simp
    refine hK _ _ hS ?_
    clear hK K
    try simp only [Act.put, List.setIfInBounds_toArray, List.set_cons_zero, List.set_cons_succ]
    iterate 2
      (first
        | (refine wpGrowS_float (v := ?_) (by simp only [List.getElem?_toArray, List.getElem?_cons_succ, List.getElem?_cons_zero]; rfl) (by rfl) ?_ ?_
           rotate_left
           · (intro W hW; obtain ⟨f1a, f1b, _, _⟩ := RB.facts (hW.2.1); go_simp; try with_reducible rfl)
           simp only [Act.put, List.setIfInBounds_toArray, List.set_cons_zero, List.set_cons_succ])
        | (refine wpGrowS_skip (by simp only [List.getElem?_toArray, List.getElem?_cons_succ, List.getElem?_cons_zero]; rfl) (by rfl) ?_
           simp only [Act.put, List.setIfInBounds_toArray, List.set_cons_zero, List.set_cons_succ]))
    refine wpGrowS_nil ?_
    have HEND := Lib.hid hS.1
    clear hS
    go_wp2
    go_ret
    exact ⟨rfl, HEND.out⟩
end Go.Proofs.YtlndafkmihdbmaaDoor
