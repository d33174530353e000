/-
  The walk of the law BinencCanonical: it returns true and turns nothing that was there.
  Conditions: the argument reads as a list of bytes.
-/
import Derived.Test.YthndjngimfoanaaOpen
import Derived.Test.YthndjngimfoanaaCanon
import Derived.Test.YthndjngimfoanaaGrow
import Derived.Test.YthndjngimfoanaaStringsWalk
namespace Go.Proofs.Ythndjngimfoanaa
open Go.RowKit
set_option linter.unusedVariables false

set_option maxRecDepth 100000 in
set_option maxHeartbeats 1600000 in
theorem canonical_out (A : Option Addr) (n c : Nat) (off : Int) (w : World) (h : 1000 < n ∨ off < 0 ∨ (n : Int) < off) :
    Calls Try.prog 8 #[.slice A n c, .int .i64 off] w fun e w' => e = .returned (.bool true) ∧ Below w.heap.size w w' := by
  have HA := Lib.hid (awake_any w)
  by_cases h1 : 1000 < n
  · have hd1 : decide ((1000 : Int) < (n : Int)) = true := by simp; omega
    clear h
    go_enter Try.func8, Try.ntmps8
    go_wp2_with fail
    refine HA.out.mono ?_
    rintro e w1 ⟨rfl, hb⟩
    have HB := Lib.hid hb
    clear hb
    go_wp2
    go_ret
    exact ⟨rfl, HB.out⟩
  · have hd1 : decide ((1000 : Int) < (n : Int)) = false := by simp; omega
    by_cases h2 : off < 0
    · have hd2 : decide (off < 0) = true := by simpa using h2
      clear h
      go_enter Try.func8, Try.ntmps8
      go_wp2_with fail
      refine HA.out.mono ?_
      rintro e w1 ⟨rfl, hb⟩
      have HB := Lib.hid hb
      clear hb
      go_wp2
      go_ret
      exact ⟨rfl, HB.out⟩
    · have hd2 : decide (off < 0) = false := by simpa using h2
      have hd3 : decide ((n : Int) < off) = true := by simp; omega
      clear h
      go_enter Try.func8, Try.ntmps8
      go_wp2_with fail
      refine HA.out.mono ?_
      rintro e w1 ⟨rfl, hb⟩
      have HB := Lib.hid hb
      clear hb
      go_wp2
      go_ret
      exact ⟨rfl, HB.out⟩

theorem bysR_len (l : List UInt8) (off limit : Int) : (bysR l off limit).1.length ≤ l.length := by
  unfold bysR
  repeat (first | split | simp)
  omega

set_option maxRecDepth 100000 in
set_option maxHeartbeats 3200000 in
theorem canonical_no (A : Option Addr) (n c o u nx : Nat) (er : Int) (l : List UInt8) (w : World) (h : Byt w w.heap.size A n l) (hc : n ≤ c) (hn : n ≤ 1000) (ho : o ≤ n) (hR : (u, nx, er) = uvR l (o : Int)) (he : er ≠ 0) :
    Calls Try.prog 8 #[.slice A n c, .int .i64 (o : Int)] w fun e w' => e = .returned (.bool true) ∧ Below w.heap.size w w' := by
  have HH := Lib.hid h
  have HR := Lib.hid hR
  have hd1 : decide ((1000 : Int) < (n : Int)) = false := by simp; omega
  have hd2 : decide ((o : Int) < 0) = false := by simp
  have hd3 : decide (n < o) = false := by simpa using ho
  have hcu := uvarint_any A n c _ (o : Int) l w h (by omega)
  have hcv := varint_any A n c _ (o : Int) l w h (by omega)
  unfold vrR at hcv
  rw [← hR] at hcu hcv
  simp only at hcu hcv
  have CU := Lib.hid hcu
  have CV := Lib.hid hcv
  have CB := Lib.hid (bytes_any A n c _ (o : Int) (n : Int) l w h (Nat.le_refl _) (by omega) hc (Lib.hid (by omega)))
  clear h hcu hcv hR
  have he0 : (er == 0) = false := by simpa using he
  obtain ⟨rfl, rfl⟩ : u = 0 ∧ nx = 0 := by
    have := (uvR_facts l (o : Int)).2
    rw [← HR.out] at this
    exact this he
  go_enter Try.func8, Try.ntmps8
  go_wp2_with fail
  refine CU.out.mono ?_
  rintro e w1 ⟨rfl, rfl⟩
  clear CU
  go_wp2_with fail
  refine CV.out.mono ?_
  rintro e w1 ⟨rfl, rfl⟩
  clear CV
  go_wp2_with fail
  refine wp_region_grow [(0, true), (1, true), (2, true), (3, true), (4, true), (5, true), (6, true), (7, true), (8, true), (9, true), (10, true), (11, true), (12, true), (13, true), (16, true), (17, true), (18, true), (19, true), (20, true), (14, false), (15, true), (21, true), (22, true), (23, true), (24, true)] (by kernel_rfl) (by kernel_rfl) (by kernel_rfl) (by kernel_rfl) (by intro c a d v w h; cases d <;> exact h) ?_
  repeat (first
    | (refine wpGrow_float (v := ?_) (by simp only [List.getElem?_toArray, List.getElem?_cons_succ, List.getElem?_cons_zero]; rfl) (by rfl) ?_ ?_
       rotate_left
       · (intro W hW; go_simp; try with_reducible rfl)
       simp only [Act.put, List.setIfInBounds_toArray, List.set_cons_zero, List.set_cons_succ])
    | (refine wpGrow_skip (by simp only [List.getElem?_toArray, List.getElem?_cons_succ, List.getElem?_cons_zero]; rfl) (by rfl) ?_
       simp only [Act.put, List.setIfInBounds_toArray, List.set_cons_zero, List.set_cons_succ]))
  refine wpGrow_pass (by simp only [List.getElem?_toArray, List.getElem?_cons_succ, List.getElem?_cons_zero]; rfl) (by rfl) ?_
  simp only [Act.put, List.setIfInBounds_toArray, List.set_cons_zero, List.set_cons_succ]
  repeat (first
    | (refine wpGrow_float (v := ?_) (by simp only [List.getElem?_toArray, List.getElem?_cons_succ, List.getElem?_cons_zero]; rfl) (by rfl) ?_ ?_
       rotate_left
       · (intro W hW; go_simp; try with_reducible rfl)
       simp only [Act.put, List.setIfInBounds_toArray, List.set_cons_zero, List.set_cons_succ])
    | (refine wpGrow_skip (by simp only [List.getElem?_toArray, List.getElem?_cons_succ, List.getElem?_cons_zero]; rfl) (by rfl) ?_
       simp only [Act.put, List.setIfInBounds_toArray, List.set_cons_zero, List.set_cons_succ]))
  refine wpGrow_nil ?_
  have HF := Lib.hid ((Fut.refl w).drew)
  have CB2 := Lib.hid (bytes_any A n c _ (o : Int) (n : Int) l w.drew ((HH.out.below HF.out).wide HF.out.size) (Nat.le_refl _) (by omega) hc (Lib.hid (by omega)))
  clear CB
  go_wp2_with fail
  refine CB2.out.mono ?_
  rintro e w7 ⟨vp, rfl, hsp, hfp⟩
  have HF7 := Lib.hid (HF.out.trans hfp)
  obtain ⟨p, k, ge, hB⟩ : ∃ p k ge, bysR l (o : Int) (n : Int) = (p, k, ge) := ⟨_, _, _, rfl⟩
  rw [hB] at hsp ⊢
  simp only at hsp ⊢
  have HBR := Lib.hid hB
  obtain ⟨Ap, mp, cp, rfl, hcp, hbp⟩ := hsp.later ((Fut.refl w7).drew)
  have HBP := Lib.hid hbp
  have hmp : mp ≤ 1000 := by
    have h1 := hbp.1
    have h2 := bysR_len l (o : Int) (n : Int)
    rw [hB] at h2
    have h3 := HH.out.1
    simp only at h2
    omega
  clear hsp hbp hfp hB CB2
  by_cases hge : ge = 0
  · subst hge
    obtain ⟨hcan, hk1, hk2⟩ := bysR_canonical l o k _ p HBR.out
    have hk2' : k ≤ n := by rw [HH.out.1] at hk2; exact hk2
    have hk1' : decide (o ≤ k) = true := by simp; omega
    have hk3 : decide (k ≤ n) = true := by simp; omega
    have hcut := cut_both A n c o k (by omega) (by omega)
    have HCAN := Lib.hid hcan
    have hbc := HH.out.cut (j := o) (k := k) (cap := c) (by omega) (by omega) hc
    obtain ⟨D, hD⟩ : ∃ D, D = cutA A c o := ⟨_, rfl⟩
    rw [← hD, ← hcan, HBP.out.1] at hbc
    rw [← hD] at hcut
    have hsc := fun W (hW : Fut w7.drew W) => (hbc.below ((HF7.out.drew).trans hW)).str (c - o)
    clear hD hbc hcan
    go_wp2_with fail
    refine wp_region_grow [(0, true), (1, true), (2, true), (3, true), (4, true), (5, true), (6, true), (7, true), (8, true), (9, true), (10, true), (11, true), (12, true), (13, true), (16, true), (17, true), (18, true), (19, true), (20, true), (14, false), (15, true), (21, true), (22, true), (23, true), (24, true), (25, false), (26, true), (27, true)] (by kernel_rfl) (by kernel_rfl) (by kernel_rfl) (by kernel_rfl) (by intro c a d v w h; cases d <;> exact h) ?_
    repeat (first
      | (refine wpGrow_float (v := ?_) (by simp only [List.getElem?_toArray, List.getElem?_cons_succ, List.getElem?_cons_zero]; rfl) (by rfl) ?_ ?_
         rotate_left
         · (intro W hW; go_simp; try with_reducible rfl)
         simp only [Act.put, List.setIfInBounds_toArray, List.set_cons_zero, List.set_cons_succ])
      | (refine wpGrow_skip (by simp only [List.getElem?_toArray, List.getElem?_cons_succ, List.getElem?_cons_zero]; rfl) (by rfl) ?_
         simp only [Act.put, List.setIfInBounds_toArray, List.set_cons_zero, List.set_cons_succ]))
    clear hsc
    refine wpGrow_call (by simp only [List.getElem?_toArray, List.getElem?_cons_succ, List.getElem?_cons_zero]; rfl) (by rfl) fun K hK => ?_
    go_simp
    refine (appB_any none 0 0 w7.heap.size [] Ap mp cp p w7.drew Byt.nil HBP.out (Nat.le_refl _) (by omega) (by omega)).mono ?_
    rintro e w8 ⟨g8, rfl, hg8, hr8, hb8⟩
    rw [List.nil_append] at hr8
    have hs8 := fun W hW => app_str hr8 (m := 0 + (uvar mp).length + mp) (by rw [List.length_append, HBP.out.1]; omega) W hW (0 + (uvar mp).length + mp)
    rw [Nat.zero_add] at hs8
    have HX := Lib.hid (show Fut w7.drew w8 from hb8)
    have HF8 := Lib.hid (HF7.out.drew.trans HX.out)
    clear hr8 hb8 hg8
    go_simp
    refine hK _ _ HX.out ?_
    clear hK K
    clear HX
    repeat (first
      | (refine wpGrow_float (v := ?_) (by simp only [List.getElem?_toArray, List.getElem?_cons_succ, List.getElem?_cons_zero]; rfl) (by rfl) ?_ ?_
         rotate_left
         · (intro W hW; go_simp; try with_reducible rfl)
         simp only [Act.put, List.setIfInBounds_toArray, List.set_cons_zero, List.set_cons_succ])
      | (refine wpGrow_skip (by simp only [List.getElem?_toArray, List.getElem?_cons_succ, List.getElem?_cons_zero]; rfl) (by rfl) ?_
         simp only [Act.put, List.setIfInBounds_toArray, List.set_cons_zero, List.set_cons_succ]))
    clear hs8
    refine wpGrow_call (by simp only [List.getElem?_toArray, List.getElem?_cons_succ, List.getElem?_cons_zero]; rfl) (by rfl) fun K hK => ?_
    go_simp
    refine (awake_any w8).mono ?_
    rintro e w9 ⟨rfl, hb9⟩
    have HX := Lib.hid (show Fut w8 w9 from hb9)
    have HF9 := Lib.hid (HF8.out.trans HX.out)
    clear hb9
    go_simp
    refine hK _ _ HX.out ?_
    clear hK K
    repeat (first
      | (refine wpGrow_float (v := ?_) (by simp only [List.getElem?_toArray, List.getElem?_cons_succ, List.getElem?_cons_zero]; rfl) (by rfl) ?_ ?_
         rotate_left
         · (intro W hW; go_simp; try with_reducible rfl)
         simp only [Act.put, List.setIfInBounds_toArray, List.set_cons_zero, List.set_cons_succ])
      | (refine wpGrow_skip (by simp only [List.getElem?_toArray, List.getElem?_cons_succ, List.getElem?_cons_zero]; rfl) (by rfl) ?_
         simp only [Act.put, List.setIfInBounds_toArray, List.set_cons_zero, List.set_cons_succ]))
    refine wpGrow_nil ?_
    go_wp2
    go_ret
    exact ⟨rfl, HF9.out⟩
  · have hge' : (ge != 0) = true := by simpa using hge
    go_wp2_with fail
    refine wp_region_grow [(0, true), (1, true), (2, true), (3, true), (4, true), (5, true), (6, true), (7, true), (8, true), (9, true), (10, true), (11, true), (12, true), (13, true), (16, true), (17, true), (18, true), (19, true), (20, true), (14, false), (15, true), (21, true), (22, true), (23, true), (24, true), (25, false), (26, true), (27, true)] (by kernel_rfl) (by kernel_rfl) (by kernel_rfl) (by kernel_rfl) (by intro c a d v w h; cases d <;> exact h) ?_
    repeat (first
      | (refine wpGrow_float (v := ?_) (by simp only [List.getElem?_toArray, List.getElem?_cons_succ, List.getElem?_cons_zero]; rfl) (by rfl) ?_ ?_
         rotate_left
         · (intro W hW; go_simp; try with_reducible rfl)
         simp only [Act.put, List.setIfInBounds_toArray, List.set_cons_zero, List.set_cons_succ])
      | (refine wpGrow_skip (by simp only [List.getElem?_toArray, List.getElem?_cons_succ, List.getElem?_cons_zero]; rfl) (by rfl) ?_
         simp only [Act.put, List.setIfInBounds_toArray, List.set_cons_zero, List.set_cons_succ]))
    refine wpGrow_pass (by simp only [List.getElem?_toArray, List.getElem?_cons_succ, List.getElem?_cons_zero]; rfl) (by rfl) ?_
    simp only [Act.put, List.setIfInBounds_toArray, List.set_cons_zero, List.set_cons_succ]
    repeat (first
      | (refine wpGrow_float (v := ?_) (by simp only [List.getElem?_toArray, List.getElem?_cons_succ, List.getElem?_cons_zero]; rfl) (by rfl) ?_ ?_
         rotate_left
         · (intro W hW; go_simp; try with_reducible rfl)
         simp only [Act.put, List.setIfInBounds_toArray, List.set_cons_zero, List.set_cons_succ])
      | (refine wpGrow_skip (by simp only [List.getElem?_toArray, List.getElem?_cons_succ, List.getElem?_cons_zero]; rfl) (by rfl) ?_
         simp only [Act.put, List.setIfInBounds_toArray, List.set_cons_zero, List.set_cons_succ]))
    refine wpGrow_call (by simp only [List.getElem?_toArray, List.getElem?_cons_succ, List.getElem?_cons_zero]; rfl) (by rfl) fun K hK => ?_
    go_simp
    refine (awake_any w7.drew).mono ?_
    rintro e w9 ⟨rfl, hb9⟩
    have HX := Lib.hid (show Fut w7.drew w9 from hb9)
    have HF9 := Lib.hid (HF7.out.drew.trans HX.out)
    clear hb9
    go_simp
    refine hK _ _ HX.out ?_
    clear hK K
    repeat (first
      | (refine wpGrow_float (v := ?_) (by simp only [List.getElem?_toArray, List.getElem?_cons_succ, List.getElem?_cons_zero]; rfl) (by rfl) ?_ ?_
         rotate_left
         · (intro W hW; go_simp; try with_reducible rfl)
         simp only [Act.put, List.setIfInBounds_toArray, List.set_cons_zero, List.set_cons_succ])
      | (refine wpGrow_skip (by simp only [List.getElem?_toArray, List.getElem?_cons_succ, List.getElem?_cons_zero]; rfl) (by rfl) ?_
         simp only [Act.put, List.setIfInBounds_toArray, List.set_cons_zero, List.set_cons_succ]))
    refine wpGrow_nil ?_
    go_wp2
    go_ret
    exact ⟨rfl, HF9.out⟩

set_option maxRecDepth 100000 in
set_option maxHeartbeats 3200000 in
theorem canonical_yes (A : Option Addr) (n c o u nx : Nat) (er : Int) (l : List UInt8) (w : World) (h : Byt w w.heap.size A n l) (hc : n ≤ c) (hn : n ≤ 1000) (ho : o ≤ n) (hR : (u, nx, er) = uvR l (o : Int)) (he : er = 0) :
    Calls Try.prog 8 #[.slice A n c, .int .i64 (o : Int)] w fun e w' => e = .returned (.bool true) ∧ Below w.heap.size w w' := by
  subst he
  have HH := Lib.hid h
  have HR := Lib.hid hR
  have hd1 : decide ((1000 : Int) < (n : Int)) = false := by simp; omega
  have hd2 : decide ((o : Int) < 0) = false := by simp
  have hd3 : decide (n < o) = false := by simpa using ho
  have hcu := uvarint_any A n c _ (o : Int) l w h (by omega)
  have hcv := varint_any A n c _ (o : Int) l w h (by omega)
  unfold vrR at hcv
  rw [← hR] at hcu hcv
  simp only at hcu hcv
  have CU := Lib.hid hcu
  have CV := Lib.hid hcv
  have CB := Lib.hid (bytes_any A n c _ (o : Int) (n : Int) l w h (Nat.le_refl _) (by omega) hc (Lib.hid (by omega)))
  clear h hcu hcv hR
  have hnx := uvR_next l (o : Int) (by rw [← HR.out])
  rw [← HR.out, HH.out.1] at hnx
  simp only at hnx
  obtain ⟨_, hnx1, hnx2⟩ := hnx
  have hk1 : decide (nx ≤ o) = false := by simp; omega
  have hk2 : decide (n < nx) = false := by simp; omega
  have hu64 : u < 18446744073709551616 := by
    have := (uvR_facts l (o : Int)).1
    rw [← HR.out] at this
    exact this
  have HU := Lib.hid hu64
  clear hu64
  have hcut := cut_both A n c o nx (by omega) (by omega)
  have hbc := HH.out.cut (j := o) (k := nx) (cap := c) (by omega) (by omega) hc
  obtain ⟨D, hD⟩ : ∃ D, D = cutA A c o := ⟨_, rfl⟩
  rw [← hD, ← uvR_canonical l o u nx HR.out] at hbc
  rw [← hD] at hcut
  have HBC := Lib.hid hbc
  have hcut1 := cut_to A n c (nx - 1) (by omega)
  rw [show ((nx - 1 : Nat) : Int) = (nx : Int) - 1 by omega] at hcut1
  obtain ⟨L, hL⟩ : ∃ L, L = (uvar u).length := ⟨_, rfl⟩
  have HL := Lib.hid hL
  clear hD hbc hL
  go_enter Try.func8, Try.ntmps8
  go_wp2_with fail
  refine CU.out.mono ?_
  rintro e w1 ⟨rfl, rfl⟩
  clear CU
  go_wp2_with fail
  refine wp_region_grow [(0, true), (1, true), (2, true), (3, true), (4, true), (5, true), (6, true), (7, true), (8, true), (9, true), (10, true), (13, true), (14, true), (15, true), (16, true), (17, true), (11, false), (12, true), (18, true), (19, true)] (by kernel_rfl) (by kernel_rfl) (by kernel_rfl) (by kernel_rfl) (by intro c a d v w h; cases d <;> exact h) ?_
  have hsc := fun W (hW : Fut w.drew W) => (HBC.out.below ((Fut.refl w).drew.trans hW)).str (c - o)
  repeat (first
    | (refine wpGrow_float (v := ?_) (by simp only [List.getElem?_toArray, List.getElem?_cons_succ, List.getElem?_cons_zero]; rfl) (by rfl) ?_ ?_
       rotate_left
       · (intro W hW; go_simp; try with_reducible rfl)
       simp only [Act.put, List.setIfInBounds_toArray, List.set_cons_zero, List.set_cons_succ])
    | (refine wpGrow_skip (by simp only [List.getElem?_toArray, List.getElem?_cons_succ, List.getElem?_cons_zero]; rfl) (by rfl) ?_
       simp only [Act.put, List.setIfInBounds_toArray, List.set_cons_zero, List.set_cons_succ]))
  clear hsc
  refine wpGrow_call (by simp only [List.getElem?_toArray, List.getElem?_cons_succ, List.getElem?_cons_zero]; rfl) (by rfl) fun K hK => ?_
  go_simp
  refine (appU_any none 0 0 0 u [] w.drew Byt.nil (Nat.zero_le _) (by omega) HU.out).mono ?_
  rintro e w2 ⟨g2, rfl, hg2, hr2, hb2⟩
  rw [List.nil_append] at hr2
  rw [← HL.out, Nat.zero_add]
  have hs2 := fun W hW => app_str hr2 (m := L) HL.out.symm W hW L
  have HX := Lib.hid (show Fut w.drew w2 from hb2)
  have HF2 := Lib.hid ((Fut.refl w).drew.trans HX.out)
  clear hr2 hb2 hg2
  go_simp
  refine hK _ _ HX.out ?_
  clear hK K
  clear HX
  repeat (first
    | (refine wpGrow_float (v := ?_) (by simp only [List.getElem?_toArray, List.getElem?_cons_succ, List.getElem?_cons_zero]; rfl) (by rfl) ?_ ?_
       rotate_left
       · (intro W hW; go_simp; try with_reducible rfl)
       simp only [Act.put, List.setIfInBounds_toArray, List.set_cons_zero, List.set_cons_succ])
    | (refine wpGrow_skip (by simp only [List.getElem?_toArray, List.getElem?_cons_succ, List.getElem?_cons_zero]; rfl) (by rfl) ?_
       simp only [Act.put, List.setIfInBounds_toArray, List.set_cons_zero, List.set_cons_succ]))
  clear hs2
  refine wpGrow_nil ?_
  have hcs := uvarint_any A (nx - 1) c _ (o : Int) (l.take (nx - 1)) w2 ((HH.out.below HF2.out).to (by omega)) (by omega)
  rw [uvR_short l o u nx HR.out] at hcs
  simp only at hcs
  have CS := Lib.hid hcs
  clear hcs
  go_wp2_with fail
  refine CS.out.mono ?_
  rintro e w3 ⟨rfl, rfl⟩
  clear CS CV
  have hcv := varint_any A n c _ (o : Int) l w2 (HH.out.below HF2.out) (by omega)
  unfold vrR at hcv
  rw [← HR.out] at hcv
  simp only at hcv
  have CV := Lib.hid hcv
  clear hcv
  go_wp2_with fail
  refine CV.out.mono ?_
  rintro e w3 ⟨rfl, rfl⟩
  clear CV
  go_wp2_with fail
  refine wp_region_grow [(0, true), (1, true), (2, true), (3, true), (4, true), (5, true), (6, true), (7, true), (8, true), (9, true), (10, true), (11, true), (12, true), (13, true), (16, true), (17, true), (18, true), (19, true), (20, true), (14, false), (15, true), (21, true), (22, true), (23, true), (24, true)] (by kernel_rfl) (by kernel_rfl) (by kernel_rfl) (by kernel_rfl) (by intro c a d v w h; cases d <;> exact h) ?_
  have hsc := fun W (hW : Fut w2.drew W) => (HBC.out.below (HF2.out.drew.trans hW)).str (c - o)
  repeat (first
    | (refine wpGrow_float (v := ?_) (by simp only [List.getElem?_toArray, List.getElem?_cons_succ, List.getElem?_cons_zero]; rfl) (by rfl) ?_ ?_
       rotate_left
       · (intro W hW; go_simp; try with_reducible rfl)
       simp only [Act.put, List.setIfInBounds_toArray, List.set_cons_zero, List.set_cons_succ])
    | (refine wpGrow_skip (by simp only [List.getElem?_toArray, List.getElem?_cons_succ, List.getElem?_cons_zero]; rfl) (by rfl) ?_
       simp only [Act.put, List.setIfInBounds_toArray, List.set_cons_zero, List.set_cons_succ]))
  clear hsc
  refine wpGrow_call (by simp only [List.getElem?_toArray, List.getElem?_cons_succ, List.getElem?_cons_zero]; rfl) (by rfl) fun K hK => ?_
  go_simp
  refine (appV_any none 0 0 0 (unzz u) [] w2.drew Byt.nil (Nat.zero_le _) (by omega) (unzz_bounds u HU.out).1 (unzz_bounds u HU.out).2).mono ?_
  rintro e w4 ⟨g4, rfl, hg4, hr4, hb4⟩
  rw [List.nil_append, zz_unzz] at hr4
  rw [zz_unzz, ← HL.out, Nat.zero_add]
  have hs4 := fun W hW => app_str hr4 (m := L) HL.out.symm W hW L
  have HX := Lib.hid (show Fut w2.drew w4 from hb4)
  have HF4 := Lib.hid (HF2.out.drew.trans HX.out)
  clear hr4 hb4 hg4
  go_simp
  refine hK _ _ HX.out ?_
  clear hK K
  clear HX
  repeat (first
    | (refine wpGrow_float (v := ?_) (by simp only [List.getElem?_toArray, List.getElem?_cons_succ, List.getElem?_cons_zero]; rfl) (by rfl) ?_ ?_
       rotate_left
       · (intro W hW; go_simp; try with_reducible rfl)
       simp only [Act.put, List.setIfInBounds_toArray, List.set_cons_zero, List.set_cons_succ])
    | (refine wpGrow_skip (by simp only [List.getElem?_toArray, List.getElem?_cons_succ, List.getElem?_cons_zero]; rfl) (by rfl) ?_
       simp only [Act.put, List.setIfInBounds_toArray, List.set_cons_zero, List.set_cons_succ]))
  clear hs4
  refine wpGrow_nil ?_
  clear hcut hk1 hk2
  have CB2 := Lib.hid (bytes_any A n c _ (o : Int) (n : Int) l w4 ((HH.out.below HF4.out).wide HF4.out.size) (Nat.le_refl _) (by omega) hc (Lib.hid (by omega)))
  clear CB
  go_wp2_with fail
  refine CB2.out.mono ?_
  rintro e w7 ⟨vp, rfl, hsp, hfp⟩
  have HF7 := Lib.hid (HF4.out.trans hfp)
  obtain ⟨p, k, ge, hB⟩ : ∃ p k ge, bysR l (o : Int) (n : Int) = (p, k, ge) := ⟨_, _, _, rfl⟩
  rw [hB] at hsp ⊢
  simp only at hsp ⊢
  have HBR := Lib.hid hB
  obtain ⟨Ap, mp, cp, rfl, hcp, hbp⟩ := hsp.later ((Fut.refl w7).drew)
  have HBP := Lib.hid hbp
  have hmp : mp ≤ 1000 := by
    have h1 := hbp.1
    have h2 := bysR_len l (o : Int) (n : Int)
    rw [hB] at h2
    have h3 := HH.out.1
    simp only at h2
    omega
  clear hsp hbp hfp hB CB2
  by_cases hge : ge = 0
  · subst hge
    obtain ⟨hcan, hk1, hk2⟩ := bysR_canonical l o k _ p HBR.out
    have hk2' : k ≤ n := by rw [HH.out.1] at hk2; exact hk2
    have hk1' : decide (o ≤ k) = true := by simp; omega
    have hk3 : decide (k ≤ n) = true := by simp; omega
    have hcut := cut_both A n c o k (by omega) (by omega)
    have HCAN := Lib.hid hcan
    have hbc := HH.out.cut (j := o) (k := k) (cap := c) (by omega) (by omega) hc
    obtain ⟨D, hD⟩ : ∃ D, D = cutA A c o := ⟨_, rfl⟩
    rw [← hD, ← hcan, HBP.out.1] at hbc
    rw [← hD] at hcut
    have hsc := fun W (hW : Fut w7.drew W) => (hbc.below ((HF7.out.drew).trans hW)).str (c - o)
    clear hD hbc hcan
    go_wp2_with fail
    refine wp_region_grow [(0, true), (1, true), (2, true), (3, true), (4, true), (5, true), (6, true), (7, true), (8, true), (9, true), (10, true), (11, true), (12, true), (13, true), (16, true), (17, true), (18, true), (19, true), (20, true), (14, false), (15, true), (21, true), (22, true), (23, true), (24, true), (25, false), (26, true), (27, true)] (by kernel_rfl) (by kernel_rfl) (by kernel_rfl) (by kernel_rfl) (by intro c a d v w h; cases d <;> exact h) ?_
    repeat (first
      | (refine wpGrow_float (v := ?_) (by simp only [List.getElem?_toArray, List.getElem?_cons_succ, List.getElem?_cons_zero]; rfl) (by rfl) ?_ ?_
         rotate_left
         · (intro W hW; go_simp; try with_reducible rfl)
         simp only [Act.put, List.setIfInBounds_toArray, List.set_cons_zero, List.set_cons_succ])
      | (refine wpGrow_skip (by simp only [List.getElem?_toArray, List.getElem?_cons_succ, List.getElem?_cons_zero]; rfl) (by rfl) ?_
         simp only [Act.put, List.setIfInBounds_toArray, List.set_cons_zero, List.set_cons_succ]))
    clear hsc
    refine wpGrow_call (by simp only [List.getElem?_toArray, List.getElem?_cons_succ, List.getElem?_cons_zero]; rfl) (by rfl) fun K hK => ?_
    go_simp
    refine (appB_any none 0 0 w7.heap.size [] Ap mp cp p w7.drew Byt.nil HBP.out (Nat.le_refl _) (by omega) (by omega)).mono ?_
    rintro e w8 ⟨g8, rfl, hg8, hr8, hb8⟩
    rw [List.nil_append] at hr8
    have hs8 := fun W hW => app_str hr8 (m := 0 + (uvar mp).length + mp) (by rw [List.length_append, HBP.out.1]; omega) W hW (0 + (uvar mp).length + mp)
    rw [Nat.zero_add] at hs8
    have HX := Lib.hid (show Fut w7.drew w8 from hb8)
    have HF8 := Lib.hid (HF7.out.drew.trans HX.out)
    clear hr8 hb8 hg8
    go_simp
    refine hK _ _ HX.out ?_
    clear hK K
    clear HX
    repeat (first
      | (refine wpGrow_float (v := ?_) (by simp only [List.getElem?_toArray, List.getElem?_cons_succ, List.getElem?_cons_zero]; rfl) (by rfl) ?_ ?_
         rotate_left
         · (intro W hW; go_simp; try with_reducible rfl)
         simp only [Act.put, List.setIfInBounds_toArray, List.set_cons_zero, List.set_cons_succ])
      | (refine wpGrow_skip (by simp only [List.getElem?_toArray, List.getElem?_cons_succ, List.getElem?_cons_zero]; rfl) (by rfl) ?_
         simp only [Act.put, List.setIfInBounds_toArray, List.set_cons_zero, List.set_cons_succ]))
    clear hs8
    refine wpGrow_call (by simp only [List.getElem?_toArray, List.getElem?_cons_succ, List.getElem?_cons_zero]; rfl) (by rfl) fun K hK => ?_
    go_simp
    refine (awake_any w8).mono ?_
    rintro e w9 ⟨rfl, hb9⟩
    have HX := Lib.hid (show Fut w8 w9 from hb9)
    have HF9 := Lib.hid (HF8.out.trans HX.out)
    clear hb9
    go_simp
    refine hK _ _ HX.out ?_
    clear hK K
    repeat (first
      | (refine wpGrow_float (v := ?_) (by simp only [List.getElem?_toArray, List.getElem?_cons_succ, List.getElem?_cons_zero]; rfl) (by rfl) ?_ ?_
         rotate_left
         · (intro W hW; go_simp; try with_reducible rfl)
         simp only [Act.put, List.setIfInBounds_toArray, List.set_cons_zero, List.set_cons_succ])
      | (refine wpGrow_skip (by simp only [List.getElem?_toArray, List.getElem?_cons_succ, List.getElem?_cons_zero]; rfl) (by rfl) ?_
         simp only [Act.put, List.setIfInBounds_toArray, List.set_cons_zero, List.set_cons_succ]))
    refine wpGrow_nil ?_
    go_wp2
    go_ret
    exact ⟨rfl, HF9.out⟩
  · have hge' : (ge != 0) = true := by simpa using hge
    go_wp2_with fail
    refine wp_region_grow [(0, true), (1, true), (2, true), (3, true), (4, true), (5, true), (6, true), (7, true), (8, true), (9, true), (10, true), (11, true), (12, true), (13, true), (16, true), (17, true), (18, true), (19, true), (20, true), (14, false), (15, true), (21, true), (22, true), (23, true), (24, true), (25, false), (26, true), (27, true)] (by kernel_rfl) (by kernel_rfl) (by kernel_rfl) (by kernel_rfl) (by intro c a d v w h; cases d <;> exact h) ?_
    repeat (first
      | (refine wpGrow_float (v := ?_) (by simp only [List.getElem?_toArray, List.getElem?_cons_succ, List.getElem?_cons_zero]; rfl) (by rfl) ?_ ?_
         rotate_left
         · (intro W hW; go_simp; try with_reducible rfl)
         simp only [Act.put, List.setIfInBounds_toArray, List.set_cons_zero, List.set_cons_succ])
      | (refine wpGrow_skip (by simp only [List.getElem?_toArray, List.getElem?_cons_succ, List.getElem?_cons_zero]; rfl) (by rfl) ?_
         simp only [Act.put, List.setIfInBounds_toArray, List.set_cons_zero, List.set_cons_succ]))
    refine wpGrow_pass (by simp only [List.getElem?_toArray, List.getElem?_cons_succ, List.getElem?_cons_zero]; rfl) (by rfl) ?_
    simp only [Act.put, List.setIfInBounds_toArray, List.set_cons_zero, List.set_cons_succ]
    repeat (first
      | (refine wpGrow_float (v := ?_) (by simp only [List.getElem?_toArray, List.getElem?_cons_succ, List.getElem?_cons_zero]; rfl) (by rfl) ?_ ?_
         rotate_left
         · (intro W hW; go_simp; try with_reducible rfl)
         simp only [Act.put, List.setIfInBounds_toArray, List.set_cons_zero, List.set_cons_succ])
      | (refine wpGrow_skip (by simp only [List.getElem?_toArray, List.getElem?_cons_succ, List.getElem?_cons_zero]; rfl) (by rfl) ?_
         simp only [Act.put, List.setIfInBounds_toArray, List.set_cons_zero, List.set_cons_succ]))
    refine wpGrow_call (by simp only [List.getElem?_toArray, List.getElem?_cons_succ, List.getElem?_cons_zero]; rfl) (by rfl) fun K hK => ?_
    go_simp
    refine (awake_any w7.drew).mono ?_
    rintro e w9 ⟨rfl, hb9⟩
    have HX := Lib.hid (show Fut w7.drew w9 from hb9)
    have HF9 := Lib.hid (HF7.out.drew.trans HX.out)
    clear hb9
    go_simp
    refine hK _ _ HX.out ?_
    clear hK K
    repeat (first
      | (refine wpGrow_float (v := ?_) (by simp only [List.getElem?_toArray, List.getElem?_cons_succ, List.getElem?_cons_zero]; rfl) (by rfl) ?_ ?_
         rotate_left
         · (intro W hW; go_simp; try with_reducible rfl)
         simp only [Act.put, List.setIfInBounds_toArray, List.set_cons_zero, List.set_cons_succ])
      | (refine wpGrow_skip (by simp only [List.getElem?_toArray, List.getElem?_cons_succ, List.getElem?_cons_zero]; rfl) (by rfl) ?_
         simp only [Act.put, List.setIfInBounds_toArray, List.set_cons_zero, List.set_cons_succ]))
    refine wpGrow_nil ?_
    go_wp2
    go_ret
    exact ⟨rfl, HF9.out⟩

theorem canonical_walk (A : Option Addr) (n c : Nat) (off : Int) (l : List UInt8) (w : World) (h : Byt w w.heap.size A n l) (hc : n ≤ c) :
    Calls Try.prog 8 #[.slice A n c, .int .i64 off] w fun e w' => e = .returned (.bool true) ∧ Below w.heap.size w w' := by
  by_cases hr : 1000 < n ∨ off < 0 ∨ (n : Int) < off
  · exact canonical_out A n c off w hr
  · obtain ⟨o, rfl⟩ : ∃ o : Nat, off = (o : Int) := ⟨off.toNat, by omega⟩
    obtain ⟨R, hR⟩ : ∃ R, R = uvR l (o : Int) := ⟨_, rfl⟩
    obtain ⟨u, nx, er⟩ := R
    by_cases he : er = 0
    · exact canonical_yes A n c o u nx er l w h hc (by omega) (by omega) hR he
    · exact canonical_no A n c o u nx er l w h hc (by omega) (by omega) hR he

end Go.Proofs.Ythndjngimfoanaa
