/-
  The walk of the law BinencStrings: it returns true and turns nothing that was there.
  Conditions: the arguments read as lists of bytes.
-/
import Derived.Test.YthndjngimfoanaaOpen
import Derived.Test.YthndjngimfoanaaBytesd
import Derived.Test.YthndjngimfoanaaGrow
import Derived.Test.YthndjngimfoanaaStr
namespace Go.Proofs.Ythndjngimfoanaa
open Go.RowKit
set_option linter.unusedVariables false

theorem SliceIs.str {w : World} {v : Value} {l : List UInt8} (h : SliceIs w v l) : ∃ A m cap, v = .slice A m cap ∧ ∀ W, Fut w W → (convert 22 9 (.slice A m cap)).run Try.prog W = .ok (.string (bs l)) W := by
  obtain ⟨A, m, cap, e, _, hb⟩ := h
  exact ⟨A, m, cap, e, fun W hW => (hb.below hW).str cap⟩

set_option maxRecDepth 100000 in
set_option maxHeartbeats 1600000 in
theorem strings_walk (A : Option Addr) (n c : Nat) (A2 : Option Addr) (n2 c2 : Nat) (off limit : Int) (l l2 : List UInt8) (w : World) (h : Byt w w.heap.size A n l) (h2 : Byt w w.heap.size A2 n2 l2) (hc : n ≤ c) (hlim : Hid (limit ≤ 9223372036854775807)) :
    Calls Try.prog 5 #[.slice A n c, .slice A2 n2 c2, .int .i64 off, .int .i64 limit] w fun e w' => e = .returned (.bool true) ∧ Below w.heap.size w w' := by
  have HH := Lib.hid h
  have HH2 := Lib.hid h2
  clear h h2
  by_cases hbig : 1000 < n ∨ 1000 < n2
  · have HA := Lib.hid (awake_any w)
    rcases hbig with hbig | hbig
    · have hd : decide ((1000 : Int) < (n : Int)) = true := by simp; omega
      go_enter Try.func5, Try.ntmps5
      go_wp2_with fail
      refine HA.out.mono ?_
      rintro e w1 ⟨rfl, hb⟩
      have HB := Lib.hid hb
      clear hb
      go_wp2
      go_ret
      exact ⟨rfl, HB.out⟩
    · have hd2 : decide ((1000 : Int) < (n2 : Int)) = true := by simp; omega
      by_cases hn1 : 1000 < n
      · have hd : decide ((1000 : Int) < (n : Int)) = true := by simp; omega
        go_enter Try.func5, Try.ntmps5
        go_wp2_with fail
        refine HA.out.mono ?_
        rintro e w1 ⟨rfl, hb⟩
        have HB := Lib.hid hb
        clear hb
        go_wp2
        go_ret
        exact ⟨rfl, HB.out⟩
      · have hd : decide ((1000 : Int) < (n : Int)) = false := by simp; omega
        go_enter Try.func5, Try.ntmps5
        go_wp2_with fail
        refine HA.out.mono ?_
        rintro e w1 ⟨rfl, hb⟩
        have HB := Lib.hid hb
        clear hb
        go_wp2
        go_ret
        exact ⟨rfl, HB.out⟩
  · have hd : decide ((1000 : Int) < (n : Int)) = false := by simp; omega
    have hd2 : decide ((1000 : Int) < (n2 : Int)) = false := by simp; omega
    have HS := Lib.hid (spare_any A n c _ l w HH.out (by omega))
    go_enter Try.func5, Try.ntmps5
    go_wp2_with fail
    refine HS.out.mono ?_
    rintro e w1 ⟨g1, cap1, rfl, hg1, hgl1, hc1, hm1, hby1, hb1⟩
    have C1 := Lib.hid (bytes_any _ n cap1 _ off limit l w1 (spare_byt hby1 HH.out.1) hgl1 (by omega) (by omega) hlim)
    have HF1 := Lib.hid (show Fut w w1 from hb1)
    clear hby1 hb1 HS
    go_wp2_with fail
    refine C1.out.mono ?_
    rintro e w2 ⟨vx, rfl, hsx, hfx⟩
    clear C1
    have HF2 := Lib.hid (HF1.out.trans hfx)
    have HSX := Lib.hid hsx
    clear hsx hfx
    have C1 := Lib.hid (bytesRef_any A n c _ off limit l w2 (HH.out.below HF2.out) (by omega) hc hlim)
    go_wp2_with fail
    refine C1.out.mono ?_
    rintro e w3 ⟨vy, rfl, hsy, hfy⟩
    clear C1
    have HF3 := Lib.hid (HF2.out.trans hfy)
    obtain ⟨Ax, mx, cx, rfl, hsx⟩ := (HSX.out.later (hfy.drew)).str
    obtain ⟨Ay, my, cy, rfl, hsy⟩ := (hsy.later ((Fut.refl w3).drew)).str
    have HSX2 := Lib.hid hsx
    have HSY2 := Lib.hid hsy
    clear hsx hsy hfy HSX
    go_wp2_with fail
    refine wp_region_grow [(0, true), (1, true), (2, true), (3, true), (4, true), (5, true), (6, true), (7, true), (8, true), (9, true), (10, true), (11, true), (12, true), (13, true), (14, true), (15, true), (16, true), (18, true), (22, true), (23, true), (17, false), (19, false), (20, false), (21, true), (24, false), (25, true), (26, true), (27, true), (28, true), (29, false), (30, true), (31, true)] (by kernel_rfl) (by kernel_rfl) (by kernel_rfl) (by kernel_rfl) (by intro c a d v w h; cases d <;> exact h) ?_
    have hsx := HSX2.out
    have hsy := HSY2.out
    repeat (first
      | (refine wpGrow_float (v := ?_) (by simp only [List.getElem?_toArray, List.getElem?_cons_succ, List.getElem?_cons_zero]; rfl) (by rfl) ?_ ?_
         rotate_left
         · (intro W hW; go_simp; try with_reducible rfl)
         simp only [Act.put, List.setIfInBounds_toArray, List.set_cons_zero, List.set_cons_succ])
      | (refine wpGrow_skip (by simp only [List.getElem?_toArray, List.getElem?_cons_succ, List.getElem?_cons_zero]; rfl) (by rfl) ?_
         simp only [Act.put, List.setIfInBounds_toArray, List.set_cons_zero, List.set_cons_succ]))
    clear hsx hsy HSX2 HSY2
    refine wpGrow_call (by simp only [List.getElem?_toArray, List.getElem?_cons_succ, List.getElem?_cons_zero]; rfl) (by rfl) fun K hK => ?_
    go_simp
    refine (spare_any A n c _ l w3.drew (HH.out.below HF3.out.drew) (by omega)).mono ?_
    rintro e w4 ⟨g, cap, rfl, hg, hgl, hcc, hmm, hby, hb⟩
    have HS := Lib.hid (spare_byt hby HH.out.1)
    have HX := Lib.hid (show Fut w3.drew w4 from hb)
    have HF := Lib.hid (Fut.trans HF3.out.drew hb)
    clear hby hb hg hmm
    go_simp
    refine hK _ _ HX.out ?_
    clear hK K
    clear HX
    repeat (first
      | (refine wpGrow_float (v := ?_) (by simp only [List.getElem?_toArray, List.getElem?_cons_succ, List.getElem?_cons_zero]; rfl) (by rfl) ?_ ?_
         rotate_left
         · (intro W hW; go_simp; try with_reducible rfl)
         simp only [Act.put, List.setIfInBounds_toArray, List.set_cons_zero, List.set_cons_succ])
      | (refine wpGrow_skip (by simp only [List.getElem?_toArray, List.getElem?_cons_succ, List.getElem?_cons_zero]; rfl) (by rfl) ?_
         simp only [Act.put, List.setIfInBounds_toArray, List.set_cons_zero, List.set_cons_succ]))
    refine wpGrow_call (by simp only [List.getElem?_toArray, List.getElem?_cons_succ, List.getElem?_cons_zero]; rfl) (by rfl) fun K hK => ?_
    go_simp
    refine (spare_any A2 n2 c2 _ l2 w4 (HH2.out.below HF.out) (by omega)).mono ?_
    rintro e w5 ⟨g2, cap2, rfl, hg2, hgl2, hcc2, hmm2, hby2, hb2⟩
    have HS2 := Lib.hid ((spare_byt hby2 HH2.out.1).wide (B' := w5.heap.size) hgl2)
    have HX := Lib.hid (show Fut w4 w5 from hb2)
    have HF5 := Lib.hid (Fut.trans HF.out hb2)
    have HS1 := Lib.hid ((HS.out.below (HX.out.mono hgl)).wide (B' := w5.heap.size) (by have := HX.out.size; omega))
    clear hby2 hb2 hmm2 HS
    go_simp
    refine hK _ _ HX.out ?_
    clear hK K
    clear HX
    repeat (first
      | (refine wpGrow_float (v := ?_) (by simp only [List.getElem?_toArray, List.getElem?_cons_succ, List.getElem?_cons_zero]; rfl) (by rfl) ?_ ?_
         rotate_left
         · (intro W hW; go_simp; try with_reducible rfl)
         simp only [Act.put, List.setIfInBounds_toArray, List.set_cons_zero, List.set_cons_succ])
      | (refine wpGrow_skip (by simp only [List.getElem?_toArray, List.getElem?_cons_succ, List.getElem?_cons_zero]; rfl) (by rfl) ?_
         simp only [Act.put, List.setIfInBounds_toArray, List.set_cons_zero, List.set_cons_succ]))
    refine wpGrow_call (by simp only [List.getElem?_toArray, List.getElem?_cons_succ, List.getElem?_cons_zero]; rfl) (by rfl) fun K hK => ?_
    go_simp
    refine (appB_any _ n cap w5.heap.size l _ n2 cap2 l2 w5 HS1.out HS2.out (Nat.le_refl _) (by omega) (by omega)).mono ?_
    rintro e w6 ⟨g6, rfl, hg6, hr6, hb6⟩
    have hs6 := fun W hW => app_str hr6 (m := n + (uvar n2).length + n2) (by rw [List.length_append, List.length_append, HH.out.1, HH2.out.1]) W hW (n + (uvar n2).length + n2)
    have HX := Lib.hid (show Fut w5 w6 from hb6)
    have HF6 := Lib.hid (HF5.out.trans HX.out)
    clear hr6 hb6 hg6 HS1 HS2
    go_simp
    refine hK _ _ HX.out ?_
    clear hK K
    clear HX
    repeat (first
      | (refine wpGrow_float (v := ?_) (by simp only [List.getElem?_toArray, List.getElem?_cons_succ, List.getElem?_cons_zero]; rfl) (by rfl) ?_ ?_
         rotate_left
         · (intro W hW; go_simp; try with_reducible rfl)
         simp only [Act.put, List.setIfInBounds_toArray, List.set_cons_zero, List.set_cons_succ])
      | (refine wpGrow_skip (by simp only [List.getElem?_toArray, List.getElem?_cons_succ, List.getElem?_cons_zero]; rfl) (by rfl) ?_
         simp only [Act.put, List.setIfInBounds_toArray, List.set_cons_zero, List.set_cons_succ]))
    clear hs6
    refine wpGrow_call (by simp only [List.getElem?_toArray, List.getElem?_cons_succ, List.getElem?_cons_zero]; rfl) (by rfl) fun K hK => ?_
    go_simp
    refine (appBRef_any A n c _ l A2 n2 c2 l2 w6 (HH.out.below HF6.out) (HH2.out.below HF6.out) HF6.out.size (by omega) (by omega)).mono ?_
    rintro e w7 ⟨t, rfl, hG⟩
    obtain ⟨A7, m7, c7, rfl, hs7⟩ := grow_str hG
    have HX := Lib.hid (show Fut w6 w7 from hG.2)
    have HF7 := Lib.hid (HF6.out.trans HX.out)
    clear hG
    go_simp
    refine hK _ _ HX.out ?_
    clear hK K
    clear HX
    repeat (first
      | (refine wpGrow_float (v := ?_) (by simp only [List.getElem?_toArray, List.getElem?_cons_succ, List.getElem?_cons_zero]; rfl) (by rfl) ?_ ?_
         rotate_left
         · (intro W hW; go_simp; try with_reducible rfl)
         simp only [Act.put, List.setIfInBounds_toArray, List.set_cons_zero, List.set_cons_succ])
      | (refine wpGrow_skip (by simp only [List.getElem?_toArray, List.getElem?_cons_succ, List.getElem?_cons_zero]; rfl) (by rfl) ?_
         simp only [Act.put, List.setIfInBounds_toArray, List.set_cons_zero, List.set_cons_succ]))
    clear hs7
    refine wpGrow_call (by simp only [List.getElem?_toArray, List.getElem?_cons_succ, List.getElem?_cons_zero]; rfl) (by rfl) fun K hK => ?_
    go_simp
    refine (awake_any w7).mono ?_
    rintro e w8 ⟨rfl, hb⟩
    have HX := Lib.hid (show Fut w7 w8 from hb)
    have HF8 := Lib.hid (HF7.out.trans HX.out)
    clear hb
    go_simp
    refine hK _ _ HX.out ?_
    clear hK K
    repeat (first
      | (refine wpGrow_float (v := ?_) (by simp only [List.getElem?_toArray, List.getElem?_cons_succ, List.getElem?_cons_zero]; rfl) (by rfl) ?_ ?_
         rotate_left
         · (intro W hW; go_simp; try with_reducible rfl)
         simp only [Act.put, List.setIfInBounds_toArray, List.set_cons_zero, List.set_cons_succ])
      | (refine wpGrow_skip (by simp only [List.getElem?_toArray, List.getElem?_cons_succ, List.getElem?_cons_zero]; rfl) (by rfl) ?_
         simp only [Act.put, List.setIfInBounds_toArray, List.set_cons_zero, List.set_cons_succ]))
    refine wpGrow_nil ?_
    go_wp2
    go_ret
    exact ⟨rfl, HF8.out⟩

end Go.Proofs.Ythndjngimfoanaa
