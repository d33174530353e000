/-
  The walk of the law BinencFixed: it returns true and turns nothing that was there.
  Conditions: the argument reads as a list of bytes.
-/
import Derived.Test.YthndjngimfoanaaOpen
import Derived.Test.YthndjngimfoanaaFixedApp
import Derived.Test.YthndjngimfoanaaGrow
import Derived.Test.YthndjngimfoanaaStr
namespace Go.Proofs.Ythndjngimfoanaa
open Go.RowKit
set_option linter.unusedVariables false

theorem wrap16 (v : Nat) : IntKind.u16.wrap (v : Int) = ((v % 65536 : Nat) : Int) := by rw [IntKind.wrap_u16]; omega
theorem wrap32n (v : Nat) : IntKind.u32.wrap (v : Int) = ((v % 4294967296 : Nat) : Int) := by rw [IntKind.wrap_u32]; omega
set_option maxRecDepth 100000 in
set_option maxHeartbeats 1600000 in
theorem fixed_walk (A : Option Addr) (n c v : Nat) (off : Int) (l : List UInt8) (w : World) (h : Byt w w.heap.size A n l) (hc : n ≤ c) (hv : Hid (v < 18446744073709551616)) :
    Calls Try.prog 3 #[.slice A n c, .int .u64 (v : Int), .int .i64 off] w fun e w' => e = .returned (.bool true) ∧ Below w.heap.size w w' := by
  have HH := Lib.hid h
  clear h
  by_cases hbig : 1000 < n
  · have HA := Lib.hid (awake_any w)
    go_enter Try.func3, Try.ntmps3
    go_wp2_with fail
    refine HA.out.mono ?_
    rintro e w1 ⟨rfl, hb⟩
    have HB := Lib.hid hb
    clear hb
    go_wp2
    go_ret
    exact ⟨rfl, HB.out⟩
  · have HS1 := Lib.hid (spare_any A n c _ l w HH.out (by omega))
    go_enter Try.func3, Try.ntmps3
    go_wp2_with fail
    refine HS1.out.mono ?_
    rintro e w1 ⟨g1, cap1, rfl, hg1, hgl1, hc1, hm1, hby1, hb1⟩
    have hs := hby1.to (k := n) (by omega)
    rw [List.take_left' HH.out.1] at hs
    have HS := Lib.hid hs
    have HS99 := Lib.hid hby1
    have HB1 := Lib.hid hb1
    have HL := Lib.hid (HH.out.below HB1.out)
    clear hby1 hb1 HS1 hs
    have hv2 := leUp_small l off 2
    have hv4 := leUp_small l off 4
    simp only [show 256 ^ 2 = 65536 from rfl, show 256 ^ 4 = 4294967296 from rfl] at hv2 hv4
    have C1 := Lib.hid (uint16_any _ n cap1 _ off l w1 HS.out (by omega))
    go_wp2_with fail
    refine C1.out.mono ?_
    rintro e w2 ⟨rfl, rfl⟩
    clear C1
    have C1 := Lib.hid (uint32_any _ n cap1 _ off l w1 HS.out (by omega))
    go_wp2_with fail
    refine C1.out.mono ?_
    rintro e w2 ⟨rfl, rfl⟩
    clear C1
    have C1 := Lib.hid (uint64_any _ n cap1 _ off l w1 HS.out (by omega))
    go_wp2_with fail
    refine C1.out.mono ?_
    rintro e w2 ⟨rfl, rfl⟩
    clear C1
    have C1 := Lib.hid (uintRef_any A n c _ 2 off l w1 HL.out (by omega) (by omega))
    go_wp2_with fail
    refine C1.out.mono ?_
    rintro e w2 ⟨rfl, rfl⟩
    clear C1
    have C1 := Lib.hid (uintRef_any A n c _ 4 off l w1 HL.out (by omega) (by omega))
    go_wp2_with fail
    refine C1.out.mono ?_
    rintro e w2 ⟨rfl, rfl⟩
    clear C1
    have C1 := Lib.hid (uintRef_any A n c _ 8 off l w1 HL.out (by omega) (by omega))
    go_wp2_with fail
    refine C1.out.mono ?_
    rintro e w2 ⟨rfl, rfl⟩
    clear C1
    go_wp2_with fail
    refine wp_region_grow [(0, true), (1, true), (2, true), (5, true), (6, true), (3, false), (4, true), (7, false), (8, true), (9, true), (10, true), (11, true), (12, true), (13, true), (16, true), (17, true), (14, false), (15, true), (18, false), (19, true), (20, true), (21, true), (22, true), (23, true), (24, true), (27, true), (28, true), (25, false), (26, true), (29, false), (30, true), (31, true), (32, true)] (by kernel_rfl) (by kernel_rfl) (by kernel_rfl) (by kernel_rfl) (by intro c a d v w h; cases d <;> exact h) ?_
    repeat (first
      | (refine wpGrow_float (v := ?_) (by simp only [List.getElem?_toArray, List.getElem?_cons_succ, List.getElem?_cons_zero]; rfl) (by rfl) ?_ ?_
         rotate_left
         · (intro W hW; go_simp; try with_reducible rfl)
         simp only [Act.put, List.setIfInBounds_toArray, List.set_cons_zero, List.set_cons_succ])
      | (refine wpGrow_skip (by simp only [List.getElem?_toArray, List.getElem?_cons_succ, List.getElem?_cons_zero]; rfl) (by rfl) ?_
         simp only [Act.put, List.setIfInBounds_toArray, List.set_cons_zero, List.set_cons_succ]))
    refine wpGrow_call (by simp only [List.getElem?_toArray, List.getElem?_cons_succ, List.getElem?_cons_zero]; rfl) (by rfl) fun K hK => ?_
    go_simp
    rw [wrap16]
    refine (app16_any _ n cap1 (g1 + 1) (v % 65536) l w1.drew HS.out (by exact hgl1) (by omega) (by omega)).mono ?_
    rintro e w2 ⟨g2, rfl, hg2, hr2, hb2⟩
    rw [leB_mod2] at hr2
    have hs2 := fun W hW => app_str hr2 (m := n + 2) (by rw [List.length_append, length_leB, HH.out.1]) W hW (n + 2)
    have HF2 := Lib.hid (show Below w1.heap.size w1 w2 from ((Fut.refl w1).drew).trans hb2)
    have HX := Lib.hid (show Fut w1.drew w2 from hb2)
    clear hr2 hb2 hg2
    go_simp
    refine hK _ _ HX.out ?_
    clear hK K
    clear HX
    repeat (first
      | (refine wpGrow_float (v := ?_) (by simp only [List.getElem?_toArray, List.getElem?_cons_succ, List.getElem?_cons_zero]; rfl) (by rfl) ?_ ?_
         rotate_left
         · (intro W hW; go_simp; try with_reducible rfl)
         simp only [Act.put, List.setIfInBounds_toArray, List.set_cons_zero, List.set_cons_succ])
      | (refine wpGrow_skip (by simp only [List.getElem?_toArray, List.getElem?_cons_succ, List.getElem?_cons_zero]; rfl) (by rfl) ?_
         simp only [Act.put, List.setIfInBounds_toArray, List.set_cons_zero, List.set_cons_succ]))
    clear hs2
    refine wpGrow_call (by simp only [List.getElem?_toArray, List.getElem?_cons_succ, List.getElem?_cons_zero]; rfl) (by rfl) fun K hK => ?_
    go_simp
    refine (appRef_any A n c _ v 2 l w2 (HL.out.below (HF2.out.mono HB1.out.size)) (by omega) (by omega)).mono ?_
    rintro e w3 ⟨t2, rfl, hG⟩
    obtain ⟨A2, m2, c2, rfl, hs2⟩ := grow_str hG
    have HX := Lib.hid (show Fut w2 w3 from hG.2)
    have HF3 := Lib.hid (show Below w1.heap.size w1 w3 from Fut.trans HF2.out hG.2)
    clear hG
    go_simp
    refine hK _ _ HX.out ?_
    clear hK K
    clear HX
    repeat (first
      | (refine wpGrow_float (v := ?_) (by simp only [List.getElem?_toArray, List.getElem?_cons_succ, List.getElem?_cons_zero]; rfl) (by rfl) ?_ ?_
         rotate_left
         · (intro W hW; go_simp; try with_reducible rfl)
         simp only [Act.put, List.setIfInBounds_toArray, List.set_cons_zero, List.set_cons_succ])
      | (refine wpGrow_skip (by simp only [List.getElem?_toArray, List.getElem?_cons_succ, List.getElem?_cons_zero]; rfl) (by rfl) ?_
         simp only [Act.put, List.setIfInBounds_toArray, List.set_cons_zero, List.set_cons_succ]))
    clear hs2
    refine wpGrow_call (by simp only [List.getElem?_toArray, List.getElem?_cons_succ, List.getElem?_cons_zero]; rfl) (by rfl) fun K hK => ?_
    go_simp
    rw [wrap32n]
    refine (app32_any _ n cap1 (g1 + 1) (v % 4294967296) l w3 (HS.out.below (HF3.out.mono (by omega))) (by have := HF3.out.size; omega) (by omega) (by omega)).mono ?_
    rintro e w4 ⟨g4, rfl, hg4, hr4, hb4⟩
    rw [leB_mod4] at hr4
    have hs4 := fun W hW => app_str hr4 (m := n + 4) (by rw [List.length_append, length_leB, HH.out.1]) W hW (n + 4)
    have HF4 := Lib.hid (show Below w1.heap.size w1 w4 from (Fut.trans HF3.out (Fut.refl _)).trans hb4)
    have HX := Lib.hid (show Fut w3 w4 from hb4)
    clear hr4 hb4 hg4
    go_simp
    refine hK _ _ HX.out ?_
    clear hK K
    clear HX
    repeat (first
      | (refine wpGrow_float (v := ?_) (by simp only [List.getElem?_toArray, List.getElem?_cons_succ, List.getElem?_cons_zero]; rfl) (by rfl) ?_ ?_
         rotate_left
         · (intro W hW; go_simp; try with_reducible rfl)
         simp only [Act.put, List.setIfInBounds_toArray, List.set_cons_zero, List.set_cons_succ])
      | (refine wpGrow_skip (by simp only [List.getElem?_toArray, List.getElem?_cons_succ, List.getElem?_cons_zero]; rfl) (by rfl) ?_
         simp only [Act.put, List.setIfInBounds_toArray, List.set_cons_zero, List.set_cons_succ]))
    clear hs4
    refine wpGrow_call (by simp only [List.getElem?_toArray, List.getElem?_cons_succ, List.getElem?_cons_zero]; rfl) (by rfl) fun K hK => ?_
    go_simp
    refine (appRef_any A n c _ v 4 l w4 (HL.out.below (HF4.out.mono HB1.out.size)) (by omega) (by omega)).mono ?_
    rintro e w5 ⟨t4, rfl, hG⟩
    obtain ⟨A4, m4, c4, rfl, hs4⟩ := grow_str hG
    have HX := Lib.hid (show Fut w4 w5 from hG.2)
    have HF5 := Lib.hid (show Below w1.heap.size w1 w5 from Fut.trans HF4.out hG.2)
    clear hG
    go_simp
    refine hK _ _ HX.out ?_
    clear hK K
    clear HX
    repeat (first
      | (refine wpGrow_float (v := ?_) (by simp only [List.getElem?_toArray, List.getElem?_cons_succ, List.getElem?_cons_zero]; rfl) (by rfl) ?_ ?_
         rotate_left
         · (intro W hW; go_simp; try with_reducible rfl)
         simp only [Act.put, List.setIfInBounds_toArray, List.set_cons_zero, List.set_cons_succ])
      | (refine wpGrow_skip (by simp only [List.getElem?_toArray, List.getElem?_cons_succ, List.getElem?_cons_zero]; rfl) (by rfl) ?_
         simp only [Act.put, List.setIfInBounds_toArray, List.set_cons_zero, List.set_cons_succ]))
    clear hs4
    refine wpGrow_call (by simp only [List.getElem?_toArray, List.getElem?_cons_succ, List.getElem?_cons_zero]; rfl) (by rfl) fun K hK => ?_
    go_simp
    refine (app64_any _ n cap1 (g1 + 1) v l w5 (HS.out.below (HF5.out.mono (by omega))) (by have := HF5.out.size; omega) (by omega)).mono ?_
    rintro e w6 ⟨g6, rfl, hg6, hr6, hb6⟩
    have hs6 := fun W hW => app_str hr6 (m := n + 8) (by rw [List.length_append, length_leB, HH.out.1]) W hW (n + 8)
    have HF6 := Lib.hid (show Below w1.heap.size w1 w6 from (Fut.trans HF5.out (Fut.refl _)).trans hb6)
    have HX := Lib.hid (show Fut w5 w6 from hb6)
    clear hr6 hb6 hg6
    go_simp
    refine hK _ _ HX.out ?_
    clear hK K
    clear HX
    repeat (first
      | (refine wpGrow_float (v := ?_) (by simp only [List.getElem?_toArray, List.getElem?_cons_succ, List.getElem?_cons_zero]; rfl) (by rfl) ?_ ?_
         rotate_left
         · (intro W hW; go_simp; try with_reducible rfl)
         simp only [Act.put, List.setIfInBounds_toArray, List.set_cons_zero, List.set_cons_succ])
      | (refine wpGrow_skip (by simp only [List.getElem?_toArray, List.getElem?_cons_succ, List.getElem?_cons_zero]; rfl) (by rfl) ?_
         simp only [Act.put, List.setIfInBounds_toArray, List.set_cons_zero, List.set_cons_succ]))
    clear hs6
    refine wpGrow_call (by simp only [List.getElem?_toArray, List.getElem?_cons_succ, List.getElem?_cons_zero]; rfl) (by rfl) fun K hK => ?_
    go_simp
    refine (appRef_any A n c _ v 8 l w6 (HL.out.below (HF6.out.mono HB1.out.size)) (by omega) (by omega)).mono ?_
    rintro e w7 ⟨t6, rfl, hG⟩
    obtain ⟨A6, m6, c6, rfl, hs6⟩ := grow_str hG
    have HX := Lib.hid (show Fut w6 w7 from hG.2)
    have HF7 := Lib.hid (show Below w1.heap.size w1 w7 from Fut.trans HF6.out hG.2)
    clear hG
    go_simp
    refine hK _ _ HX.out ?_
    clear hK K
    clear HX
    repeat (first
      | (refine wpGrow_float (v := ?_) (by simp only [List.getElem?_toArray, List.getElem?_cons_succ, List.getElem?_cons_zero]; rfl) (by rfl) ?_ ?_
         rotate_left
         · (intro W hW; go_simp; try with_reducible rfl)
         simp only [Act.put, List.setIfInBounds_toArray, List.set_cons_zero, List.set_cons_succ])
      | (refine wpGrow_skip (by simp only [List.getElem?_toArray, List.getElem?_cons_succ, List.getElem?_cons_zero]; rfl) (by rfl) ?_
         simp only [Act.put, List.setIfInBounds_toArray, List.set_cons_zero, List.set_cons_succ]))
    clear hs6
    refine wpGrow_nil ?_
    have hs := ((HS.out.below (HF7.out.mono (by omega))).str cap1)
    have hr := ((HL.out.below (HF7.out.mono HB1.out.size)).str c)
    have hcut := cut_to (some ⟨g1, 0, none⟩) n cap1 (n + 1) hc1
    rw [show ((n + 1 : Nat) : Int) = (n : Int) + 1 by omega] at hcut
    obtain ⟨b9, o9, e9, hb9, hc9⟩ := (HS99.out.below (HF7.out.mono (by omega))).at_ (by omega)
    have h99 := hc9 n (by omega)
    simp only [Option.some.injEq, Addr.mk.injEq] at e9
    obtain ⟨rfl, rfl, _⟩ := e9
    have hbt : bt (l ++ [99]) n = 99 := by
      unfold bt; rw [List.getD_eq_getElem?_getD, List.getElem?_append_right (by rw [HH.out.1]; exact Nat.le_refl _), HH.out.1, Nat.sub_self]; rfl
    rw [hbt, Nat.zero_add] at h99
    clear hc9 hbt hb9
    have HA := Lib.hid (awake_any w7)
    go_wp2_with fail
    refine HA.out.mono ?_
    rintro e w8 ⟨rfl, hb8⟩
    have HB8 := Lib.hid (Fut.trans (Fut.trans HB1.out HF7.out) hb8)
    clear hb8 HA
    go_wp2
    go_ret
    exact ⟨rfl, HB8.out⟩

end Go.Proofs.Ythndjngimfoanaa
