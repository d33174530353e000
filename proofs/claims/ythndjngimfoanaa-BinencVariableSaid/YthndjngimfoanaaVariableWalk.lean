/-
  The walk of the law BinencVariable: it returns true and turns nothing that was there.
  Conditions: the argument reads as a list of bytes.
-/
import Derived.Test.YthndjngimfoanaaOpen
import Derived.Test.YthndjngimfoanaaVard
import Derived.Test.YthndjngimfoanaaGrow
import Derived.Test.YthndjngimfoanaaStr
namespace Go.Proofs.Ythndjngimfoanaa
open Go.RowKit
set_option linter.unusedVariables false

set_option maxRecDepth 100000 in
set_option maxHeartbeats 1600000 in
theorem variable_walk (A : Option Addr) (n c v : Nat) (off x : Int) (l : List UInt8) (w : World) (h : Byt w w.heap.size A n l) (hc : n ≤ c) (hv : Hid (v < 18446744073709551616)) (hx0 : Hid (-9223372036854775808 ≤ x)) (hx1 : Hid (x ≤ 9223372036854775807)) :
    Calls Try.prog 4 #[.slice A n c, .int .i64 off, .int .u64 (v : Int), .int .i64 x] w fun e w' => e = .returned (.bool true) ∧ Below w.heap.size w w' := by
  have HH := Lib.hid h
  clear h
  by_cases hbig : 1000 < n
  · have HA := Lib.hid (awake_any w)
    go_enter Try.func4, Try.ntmps4
    go_wp2_with fail
    refine HA.out.mono ?_
    rintro e w1 ⟨rfl, hb⟩
    have HB := Lib.hid hb
    clear hb
    go_wp2
    go_ret
    exact ⟨rfl, HB.out⟩
  · have HF0 := Lib.hid (Fut.refl w)
    have HS := Lib.hid (spare_any A n c _ l w HH.out (by omega))
    go_enter Try.func4, Try.ntmps4
    go_wp2_with fail
    refine HS.out.mono ?_
    rintro e w1 ⟨g1, cap1, rfl, hg1, hgl1, hc1, hm1, hby1, hb1⟩
    have C1 := Lib.hid (uvarint_any _ n cap1 _ off l w1 (spare_byt hby1 HH.out.1) (by omega))
    have HF1 := Lib.hid (show Fut w w1 from hb1)
    clear hby1 hb1 HS
    go_wp2_with fail
    refine C1.out.mono ?_
    rintro e w2 ⟨rfl, rfl⟩
    clear C1
    have C1 := Lib.hid (uvarintRef_any A n c _ off l w1 (HH.out.below HF1.out) (by omega))
    go_wp2_with fail
    refine C1.out.mono ?_
    rintro e w2 ⟨rfl, rfl⟩
    clear C1
    have HS := Lib.hid (spare_any A n c _ l w1 (HH.out.below HF1.out) (by omega))
    go_wp2_with fail
    refine HS.out.mono ?_
    rintro e w2 ⟨g2, cap2, rfl, hg2, hgl2, hc2, hm2, hby2, hb2⟩
    have C1 := Lib.hid (varint_any _ n cap2 _ off l w2 (spare_byt hby2 HH.out.1) (by omega))
    have HF2 := Lib.hid (HF1.out.trans hb2)
    clear hby2 hb2 HS
    go_wp2_with fail
    refine C1.out.mono ?_
    rintro e w3 ⟨rfl, rfl⟩
    clear C1
    have C1 := Lib.hid (varintRef_any A n c _ off l w2 (HH.out.below HF2.out) (by omega))
    go_wp2_with fail
    refine C1.out.mono ?_
    rintro e w3 ⟨rfl, rfl⟩
    clear C1
    go_wp2_with fail
    refine wp_region_grow [(0, true), (1, true), (2, true), (3, true), (4, true), (5, true), (6, true), (7, true), (8, true), (9, true), (10, true), (11, true), (12, true), (13, true), (14, true), (15, true), (16, true), (17, true), (18, true), (19, true), (20, true), (21, true), (22, true), (23, true), (24, true), (25, true), (26, true), (27, true), (28, true), (29, true), (31, true), (34, true), (35, true), (30, false), (32, false), (33, true), (36, false), (37, true), (38, true), (39, true), (40, true), (41, true), (43, true), (46, true), (47, true), (42, false), (44, false), (45, true), (48, false), (49, false), (50, true), (51, true), (52, true), (53, true), (54, false), (55, true), (56, true)] (by kernel_rfl) (by kernel_rfl) (by kernel_rfl) (by kernel_rfl) (by intro c a d v w h; cases d <;> exact h) ?_
    repeat (first
      | (refine wpGrow_float (v := ?_) (by simp only [List.getElem?_toArray, List.getElem?_cons_succ, List.getElem?_cons_zero]; rfl) (by rfl) ?_ ?_
         rotate_left
         · (intro W hW; go_simp; try with_reducible rfl)
         simp only [Act.put, List.setIfInBounds_toArray, List.set_cons_zero, List.set_cons_succ])
      | (refine wpGrow_skip (by simp only [List.getElem?_toArray, List.getElem?_cons_succ, List.getElem?_cons_zero]; rfl) (by rfl) ?_
         simp only [Act.put, List.setIfInBounds_toArray, List.set_cons_zero, List.set_cons_succ]))
    refine wpGrow_call (by simp only [List.getElem?_toArray, List.getElem?_cons_succ, List.getElem?_cons_zero]; rfl) (by rfl) fun K hK => ?_
    go_simp
    refine (spare_any A n c _ l w2.drew (HH.out.below HF2.out.drew) (by omega)).mono ?_
    rintro e w4 ⟨g, cap, rfl, hg, hgl, hcc, hmm, hby, hb⟩
    have HS := Lib.hid (spare_byt hby HH.out.1)
    have HX := Lib.hid (show Fut w2.drew w4 from hb)
    have HF := Lib.hid (Fut.trans HF2.out.drew hb)
    clear hby hb hg hmm
    go_simp
    refine hK _ _ HX.out ?_
    clear hK K
    clear HX
    repeat (first
      | (refine wpGrow_float (v := ?_) (by simp only [List.getElem?_toArray, List.getElem?_cons_succ, List.getElem?_cons_zero]; rfl) (by rfl) ?_ ?_
         rotate_left
         · (intro W hW; go_simp; try with_reducible rfl)
         simp only [Act.put, List.setIfInBounds_toArray, List.set_cons_zero, List.set_cons_succ])
      | (refine wpGrow_skip (by simp only [List.getElem?_toArray, List.getElem?_cons_succ, List.getElem?_cons_zero]; rfl) (by rfl) ?_
         simp only [Act.put, List.setIfInBounds_toArray, List.set_cons_zero, List.set_cons_succ]))
    refine wpGrow_call (by simp only [List.getElem?_toArray, List.getElem?_cons_succ, List.getElem?_cons_zero]; rfl) (by rfl) fun K hK => ?_
    go_simp
    refine (appU_any _ n cap (g + 1) v l w4 HS.out hgl (by omega) hv.out).mono ?_
    rintro e w5 ⟨g2, rfl, hg2, hr2, hb2⟩
    have hs2 := fun W hW => app_str hr2 (m := n + (uvar v).length) (by rw [List.length_append, HH.out.1]) W hW (n + (uvar v).length)
    have HX := Lib.hid (show Fut w4 w5 from hb2)
    have HF2 := Lib.hid (HF.out.trans HX.out)
    clear hr2 hb2 hg2 HS hcc hgl HF
    go_simp
    refine hK _ _ HX.out ?_
    clear hK K
    clear HX
    repeat (first
      | (refine wpGrow_float (v := ?_) (by simp only [List.getElem?_toArray, List.getElem?_cons_succ, List.getElem?_cons_zero]; rfl) (by rfl) ?_ ?_
         rotate_left
         · (intro W hW; go_simp; try with_reducible rfl)
         simp only [Act.put, List.setIfInBounds_toArray, List.set_cons_zero, List.set_cons_succ])
      | (refine wpGrow_skip (by simp only [List.getElem?_toArray, List.getElem?_cons_succ, List.getElem?_cons_zero]; rfl) (by rfl) ?_
         simp only [Act.put, List.setIfInBounds_toArray, List.set_cons_zero, List.set_cons_succ]))
    clear hs2
    refine wpGrow_call (by simp only [List.getElem?_toArray, List.getElem?_cons_succ, List.getElem?_cons_zero]; rfl) (by rfl) fun K hK => ?_
    go_simp
    refine (appURef_any A n c _ v l w5 (HH.out.below HF2.out) (by omega) hv.out).mono ?_
    rintro e w6 ⟨t, rfl, hG⟩
    obtain ⟨A2, m2, c2, rfl, hs2⟩ := grow_str hG
    have HX := Lib.hid (show Fut w5 w6 from hG.2)
    have HF3 := Lib.hid (HF2.out.trans HX.out)
    clear hG HF2
    go_simp
    refine hK _ _ HX.out ?_
    clear hK K
    clear HX
    repeat (first
      | (refine wpGrow_float (v := ?_) (by simp only [List.getElem?_toArray, List.getElem?_cons_succ, List.getElem?_cons_zero]; rfl) (by rfl) ?_ ?_
         rotate_left
         · (intro W hW; go_simp; try with_reducible rfl)
         simp only [Act.put, List.setIfInBounds_toArray, List.set_cons_zero, List.set_cons_succ])
      | (refine wpGrow_skip (by simp only [List.getElem?_toArray, List.getElem?_cons_succ, List.getElem?_cons_zero]; rfl) (by rfl) ?_
         simp only [Act.put, List.setIfInBounds_toArray, List.set_cons_zero, List.set_cons_succ]))
    clear hs2
    refine wpGrow_call (by simp only [List.getElem?_toArray, List.getElem?_cons_succ, List.getElem?_cons_zero]; rfl) (by rfl) fun K hK => ?_
    go_simp
    refine (spare_any A n c _ l w6 (HH.out.below HF3.out) (by omega)).mono ?_
    rintro e w7 ⟨g, cap, rfl, hg, hgl, hcc, hmm, hby, hb⟩
    have HS := Lib.hid (spare_byt hby HH.out.1)
    have HX := Lib.hid (show Fut w6 w7 from hb)
    have HF := Lib.hid (Fut.trans HF3.out hb)
    clear hby hb hg hmm HF3
    go_simp
    refine hK _ _ HX.out ?_
    clear hK K
    clear HX
    repeat (first
      | (refine wpGrow_float (v := ?_) (by simp only [List.getElem?_toArray, List.getElem?_cons_succ, List.getElem?_cons_zero]; rfl) (by rfl) ?_ ?_
         rotate_left
         · (intro W hW; go_simp; try with_reducible rfl)
         simp only [Act.put, List.setIfInBounds_toArray, List.set_cons_zero, List.set_cons_succ])
      | (refine wpGrow_skip (by simp only [List.getElem?_toArray, List.getElem?_cons_succ, List.getElem?_cons_zero]; rfl) (by rfl) ?_
         simp only [Act.put, List.setIfInBounds_toArray, List.set_cons_zero, List.set_cons_succ]))
    refine wpGrow_call (by simp only [List.getElem?_toArray, List.getElem?_cons_succ, List.getElem?_cons_zero]; rfl) (by rfl) fun K hK => ?_
    go_simp
    refine (appV_any _ n cap (g + 1) x l w7 HS.out hgl (by omega) hx0.out hx1.out).mono ?_
    rintro e w8 ⟨g2, rfl, hg2, hr2, hb2⟩
    have hs2 := fun W hW => app_str hr2 (m := n + (uvar (zz x)).length) (by rw [List.length_append, HH.out.1]) W hW (n + (uvar (zz x)).length)
    have HX := Lib.hid (show Fut w7 w8 from hb2)
    have HF2 := Lib.hid (HF.out.trans HX.out)
    clear hr2 hb2 hg2 HS hcc hgl HF
    go_simp
    refine hK _ _ HX.out ?_
    clear hK K
    clear HX
    repeat (first
      | (refine wpGrow_float (v := ?_) (by simp only [List.getElem?_toArray, List.getElem?_cons_succ, List.getElem?_cons_zero]; rfl) (by rfl) ?_ ?_
         rotate_left
         · (intro W hW; go_simp; try with_reducible rfl)
         simp only [Act.put, List.setIfInBounds_toArray, List.set_cons_zero, List.set_cons_succ])
      | (refine wpGrow_skip (by simp only [List.getElem?_toArray, List.getElem?_cons_succ, List.getElem?_cons_zero]; rfl) (by rfl) ?_
         simp only [Act.put, List.setIfInBounds_toArray, List.set_cons_zero, List.set_cons_succ]))
    clear hs2
    refine wpGrow_call (by simp only [List.getElem?_toArray, List.getElem?_cons_succ, List.getElem?_cons_zero]; rfl) (by rfl) fun K hK => ?_
    go_simp
    refine (zigzag_any x w8 hx0.out hx1.out).mono ?_
    rintro e w9 ⟨rfl, rfl⟩
    go_simp
    refine hK _ _ (Fut.refl w8) ?_
    clear hK K
    repeat (first
      | (refine wpGrow_float (v := ?_) (by simp only [List.getElem?_toArray, List.getElem?_cons_succ, List.getElem?_cons_zero]; rfl) (by rfl) ?_ ?_
         rotate_left
         · (intro W hW; go_simp; try with_reducible rfl)
         simp only [Act.put, List.setIfInBounds_toArray, List.set_cons_zero, List.set_cons_succ])
      | (refine wpGrow_skip (by simp only [List.getElem?_toArray, List.getElem?_cons_succ, List.getElem?_cons_zero]; rfl) (by rfl) ?_
         simp only [Act.put, List.setIfInBounds_toArray, List.set_cons_zero, List.set_cons_succ]))
    refine wpGrow_call (by simp only [List.getElem?_toArray, List.getElem?_cons_succ, List.getElem?_cons_zero]; rfl) (by rfl) fun K hK => ?_
    go_simp
    refine (appURef_any A n c _ (zz x) l w8 (HH.out.below HF2.out) (by omega) (zz_lt x hx0.out hx1.out)).mono ?_
    rintro e w9 ⟨t, rfl, hG⟩
    obtain ⟨A2, m2, c2, rfl, hs2⟩ := grow_str hG
    have HX := Lib.hid (show Fut w8 w9 from hG.2)
    have HF3 := Lib.hid (HF2.out.trans HX.out)
    clear hG HF2
    go_simp
    refine hK _ _ HX.out ?_
    clear hK K
    clear HX
    repeat (first
      | (refine wpGrow_float (v := ?_) (by simp only [List.getElem?_toArray, List.getElem?_cons_succ, List.getElem?_cons_zero]; rfl) (by rfl) ?_ ?_
         rotate_left
         · (intro W hW; go_simp; try with_reducible rfl)
         simp only [Act.put, List.setIfInBounds_toArray, List.set_cons_zero, List.set_cons_succ])
      | (refine wpGrow_skip (by simp only [List.getElem?_toArray, List.getElem?_cons_succ, List.getElem?_cons_zero]; rfl) (by rfl) ?_
         simp only [Act.put, List.setIfInBounds_toArray, List.set_cons_zero, List.set_cons_succ]))
    clear hs2
    refine wpGrow_call (by simp only [List.getElem?_toArray, List.getElem?_cons_succ, List.getElem?_cons_zero]; rfl) (by rfl) fun K hK => ?_
    go_simp
    refine (awake_any w9).mono ?_
    rintro e w10 ⟨rfl, hb⟩
    have HX := Lib.hid (show Fut w9 w10 from hb)
    have HF := Lib.hid (HF3.out.trans HX.out)
    clear hb
    go_simp
    refine hK _ _ HX.out ?_
    clear hK K
    repeat (first
      | (refine wpGrow_float (v := ?_) (by simp only [List.getElem?_toArray, List.getElem?_cons_succ, List.getElem?_cons_zero]; rfl) (by rfl) ?_ ?_
         rotate_left
         · (intro W hW; go_simp; try with_reducible rfl)
         simp only [Act.put, List.setIfInBounds_toArray, List.set_cons_zero, List.set_cons_succ])
      | (refine wpGrow_skip (by simp only [List.getElem?_toArray, List.getElem?_cons_succ, List.getElem?_cons_zero]; rfl) (by rfl) ?_
         simp only [Act.put, List.setIfInBounds_toArray, List.set_cons_zero, List.set_cons_succ]))
    refine wpGrow_nil ?_
    go_wp2
    go_ret
    exact ⟨rfl, HF.out⟩

end Go.Proofs.Ythndjngimfoanaa
