/-
  The law RangeSplits returns true.
  Conditions: none.
-/
import Derived.Test.YtlndafkmihdbmaaDoorLrf
namespace Go.Proofs.YtlndafkmihdbmaaDoor
open Go.RowKit

theorem RowB.next {W W' : World} {B : Nat} {A : Option Addr} {l : List GR} (h : GRow GR.cells 2 W B A l ∧ B ≤ W.heap.size) (hb : Below W.heap.size W W') : GRow GR.cells 2 W' B A l ∧ B ≤ W'.heap.size :=
  ⟨h.1.keep fun g hg => hb.block g (by omega), Nat.le_trans h.2 hb.size⟩
theorem RowB.gb {W W' : World} {B : Nat} {A : Option Addr} {l : List GR} {o : Option Nat} (h : GRow GR.cells 2 W B A l ∧ B ≤ W.heap.size) (hg : W.grownBy W' o) (hne : ∀ g, o = some g → B ≤ g) : GRow GR.cells 2 W' B A l ∧ B ≤ W'.heap.size :=
  ⟨h.1.keep fun g hlt => hg.block g (by omega) (fun e => by have := hne g e.symm; omega), Nat.le_trans h.2 hg.size⟩
theorem RowB.row {W : World} {B : Nat} {A : Option Addr} {l : List GR} (h : GRow GR.cells 2 W B A l ∧ B ≤ W.heap.size) : GRow GR.cells 2 W W.heap.size A l := h.1.wide h.2
/-- A small range has at most 1024 free ranges. -/
theorem free_small {r : GR} (us : List GR) (h : VR r) (h16 : r.bits ≤ 16) : (freeL r us).length ≤ 1024 := by
  have S := freeL_spec us h
  have hs := sum_len fun f hf => (S.good f hf).1
  have hp := sz_pos r
  have hc := sum_cnt (a := r.base) (n := r.sz.toNat) (l := freeL r us) (fun f hf => by
    have := con_iff.1 (S.good f hf).2.1
    exact ⟨this.2.1, by omega, by omega⟩) S.asc
  have hm : cnt (inL (freeL r us)) r.base r.sz.toNat ≤ cnt (fun _ => true) r.base r.sz.toNat := cnt_mono fun _ _ _ _ => rfl
  rw [cnt_all fun _ _ _ => rfl] at hm
  have h1 : r.sz ≤ pw 16 := pw_le h16 (by have := h.lo; omega)
  have h2 : pw 16 = 65536 := by decide
  omega
theorem splits6 {r : GR} {us : List GR} (h : VR r) (h1 : freeL r us ≠ [r]) (h6 : r.bits = 6) : freeL r us = [] := by
  rw [freeL_step us h, if_neg (fun hq => h1 ((freeL_one h).2 hq))]
  split
  · rfl
  · first | rfl | rw [if_pos h6]
theorem splits {r : GR} {us : List GR} (h : VR r) (h1 : freeL r us ≠ [r]) (h6 : r.bits ≠ 6) : freeL r us = freeL (lowR r) us ++ freeL (highR r) us := by
  have H := halves h h6
  by_cases hc : us.any (fun u => conR u r) = true
  · obtain ⟨u, hu, hcu⟩ := List.any_eq_true.1 hc
    rw [freeL_whole h hc, freeL_whole H.low (List.any_eq_true.2 ⟨u, hu, con_trans hcu H.cl⟩), freeL_whole H.high (List.any_eq_true.2 ⟨u, hu, con_trans hcu H.ch⟩)]
    rfl
  · rw [freeL_step us h, if_neg (fun hq => h1 ((freeL_one h).2 hq)), if_neg hc, if_neg h6]
set_option maxRecDepth 20000 in
set_option maxHeartbeats 8000000 in
theorem lsplits (a b : Int) (A : Option Addr) (len cap : Nat) (zs : List Int) (w : World) (hr : IRow w w.heap.size A len cap zs) (hG : T10 w) :
    Calls Tryd.prog 11 #[.int .i64 a, .int .i64 b, .slice A len cap] w fun e w' => e = .returned (.bool true) ∧ Below w.heap.size w w' := by
  have HSM := Lib.hid fun a b W => mSmall_any a b W
  have HSS := Lib.hid fun W h => mSmalls_any A len cap zs W h
  have HAW := Lib.hid fun W hb => awake10 W (T10.next hG hb)
  have HR0 := Lib.hid hr
  clear hr
  go_enter Tryd.func11, Tryd.ntmps11
  go_wp2_with fail
  go_fit (HSM.out a b _)
  rintro e w1 ⟨⟨rb, rn⟩, hvr, h16, htop, rfl, hb1⟩
  have HB1 := Lib.hid (belt hb1 (.cells #[.int .i64 rb, .int .i64 rn] 23))
  have HVR := Lib.hid hvr
  have H16 := Lib.hid h16
  have HTOP := Lib.hid htop
  have HX1 := Lib.hid (RB.new w1 ⟨rb, rn⟩)
  have HI1 := Lib.hid (HSS.out _ (hR_keep HR0.out (belt hb1 (.cells #[.int .i64 rb, .int .i64 rn] 23))))
  clear hb1 hvr h16 htop HSM HSS HR0
  simp only [GR.val]
  go_wp2_with fail
  go_fit HI1.out
  rintro e w2 ⟨v2, rfl, us, hs2⟩
  have ho2 := hs2.own
  have HUV := Lib.hid hs2.ok
  have hul := hs2.few
  have hb2 := hs2.bel
  obtain ⟨A1, c1, rfl, hc1, hm1, hr1⟩ := ho2.row GR.len
  have HU2 := Lib.hid hr1
  have HO2 := Lib.hid ho2
  have HX2 := Lib.hid (RB.next HX1.out hb2)
  have HB2 := Lib.hid (beln HB1.out hb2)
  have HUL := Lib.hid hul
  have HCP := Lib.hid fun A c W h => copied_any us A c W h (by omega)
  have HPF := Lib.hid fun A c W h hb => pFree_any ⟨rb, rn⟩ us A c W h (by omega) (T10.next hG hb)
  obtain ⟨fl, hfl⟩ : ∃ x, x = freeL ⟨rb, rn⟩ us := ⟨_, rfl⟩
  have HLL := Lib.hid (freeL_len ⟨rb, rn⟩ us)
  have HFS := Lib.hid (freeL_spec us HVR.out)
  simp only [GR.val] at HPF
  clear hs2 ho2 hb2 hc1 hm1 hr1 HI1
  rw [← hfl] at HPF HLL HFS
  have HFL := Lib.hid hfl
  clear hfl
  go_upto_region 3 with fail
  have hS : Below w.heap.size w w2.drew ∧ RB w2.drew w1.heap.size ⟨rb, rn⟩ ∧ GRow GR.cells 2 w2.drew w2.drew.heap.size A1 us := ⟨HB2.out.drew, RB.next HX2.out (Below.refl _ w2).drew, GRow.next HU2.out (Below.refl _ w2).drew⟩
  refine wp_region_growS (S := fun W => Below w.heap.size w W ∧ RB W w1.heap.size ⟨rb, rn⟩ ∧ GRow GR.cells 2 W W.heap.size A1 us) [(0, true), (1, true), (2, false), (3, false), (4, true)] (by kernel_rfl) (by kernel_rfl) (by kernel_rfl) (by kernel_rfl) (by intro c a d v w h; cases d <;> exact h) hS ?_
  iterate 2
    (first
      | (refine wpGrowS_float (v := ?_) (by simp only [List.getElem?_toArray, List.getElem?_cons_succ, List.getElem?_cons_zero]; rfl) (by rfl) ?_ ?_
         rotate_left
         · (intro W hW; obtain ⟨f1a, f1b, _, _⟩ := RB.facts (hW.2.1); go_simp; try with_reducible rfl)
         simp only [Act.put, List.setIfInBounds_toArray, List.set_cons_zero, List.set_cons_succ])
      | (refine wpGrowS_skip (by simp only [List.getElem?_toArray, List.getElem?_cons_succ, List.getElem?_cons_zero]; rfl) (by rfl) ?_
         simp only [Act.put, List.setIfInBounds_toArray, List.set_cons_zero, List.set_cons_succ]))
  refine wpGrowS_call (by simp only [List.getElem?_toArray, List.getElem?_cons_succ, List.getElem?_cons_zero]; rfl) (by rfl) fun K hK => ?_
  go_simp
  go_fit (HCP.out A1 c1 _ hS.2.2)
  rintro e wn ⟨v3, rfl, ho3, hbn⟩
  have hSp := hS
  have hS : Below w.heap.size w wn ∧ RB wn w1.heap.size ⟨rb, rn⟩ ∧ GRow GR.cells 2 wn wn.heap.size A1 us := ⟨beln (hS.1) hbn, RB.next (hS.2.1) hbn, GRow.next (hS.2.2) hbn⟩
  obtain ⟨A3, c3, rfl, hc3, hm3, hr3⟩ := ho3.row GR.len
  go_simp
  refine hK _ _ hS ?_
  clear hK K
  try simp only [Act.put, List.setIfInBounds_toArray, List.set_cons_zero, List.set_cons_succ]
  refine wpGrowS_call (by simp only [List.getElem?_toArray, List.getElem?_cons_succ, List.getElem?_cons_zero]; rfl) (by rfl) fun K hK => ?_
  go_simp
  go_fit (HPF.out A3 c3 _ hr3 (hS.1))
  rintro e wn ⟨v4, rfl, ho4, hbn⟩
  have hSp := hS
  have hS : Below w.heap.size w wn ∧ RB wn w1.heap.size ⟨rb, rn⟩ ∧ GRow GR.cells 2 wn wn.heap.size A1 us := ⟨beln (hS.1) hbn, RB.next (hS.2.1) hbn, GRow.next (hS.2.2) hbn⟩
  go_simp
  refine hK _ _ hS ?_
  clear hK K
  try simp only [Act.put, List.setIfInBounds_toArray, List.set_cons_zero, List.set_cons_succ]
  iterate 1
    (first
      | (refine wpGrowS_float (v := ?_) (by simp only [List.getElem?_toArray, List.getElem?_cons_succ, List.getElem?_cons_zero]; rfl) (by rfl) ?_ ?_
         rotate_left
         · (intro W hW; obtain ⟨f1a, f1b, _, _⟩ := RB.facts (hW.2.1); go_simp; try with_reducible rfl)
         simp only [Act.put, List.setIfInBounds_toArray, List.set_cons_zero, List.set_cons_succ])
      | (refine wpGrowS_skip (by simp only [List.getElem?_toArray, List.getElem?_cons_succ, List.getElem?_cons_zero]; rfl) (by rfl) ?_
         simp only [Act.put, List.setIfInBounds_toArray, List.set_cons_zero, List.set_cons_succ]))
  refine wpGrowS_nil ?_
  obtain ⟨A2, c2, rfl, hc2, hm2, hr2⟩ := ho4.row GR.len
  have HB4 := Lib.hid hS.1
  have HX4 := Lib.hid hS.2.1
  have HU4 := Lib.hid hS.2.2
  have HF4 := Lib.hid hr2
  have hfl := HLL.out
  clear hS hbn ho3 ho4 hc3 hm3 hr3 hc2 hm2 hr2 HB2 HX2 HU2
  generalize wn = w4 at *
  have HSMA := Lib.hid (by rw [HFL.out]; exact free_small us HVR.out H16.out : fl.length ≤ 1024)
  have hfl2 := HSMA.out
  have HCV := Lib.hid fun A c W h => rCov_any fl A c W h (by omega)
  have HPH := Lib.hid fun W => pHalves_any ⟨rb, rn⟩ W
  have HCW := Lib.hid (cover_whole (r := ⟨rb, rn⟩) (us := us) HVR.out)
  have HS6 := Lib.hid fun h1 h6 => splits6 (r := ⟨rb, rn⟩) (us := us) HVR.out h1 h6
  have HS7 := Lib.hid fun h1 h6 => splits (r := ⟨rb, rn⟩) (us := us) HVR.out h1 h6
  rw [← HFL.out] at HCW HS6 HS7
  rw [show GR.sz ⟨rb, rn⟩ = pw rn from rfl] at HCW
  have v1 : 6 ≤ rn := HVR.out.lo
  have v2 : rn ≤ 40 := HVR.out.hi
  have hsh : IntKind.i64.wrap (2 ^ rn.toNat) = pw rn := shl_one (by omega) (by omega)
  have hsh2 : wrap64 (2 ^ rn.toNat) = pw rn := shl_one64 (by omega) (by omega)
  have hcu : IntKind.u64.wrap rn = rn := by rw [IntKind.wrap_u64]; omega
  have hmin : min rn.toNat 64 = rn.toNat := by omega
  generalize pw rn = z at *
  generalize hcv : covL fl = cv at *
  simp only [GR.val] at HPH
  go_upto_region 4 with fail
  have hS : Below w.heap.size w w4.drew ∧ RB w4.drew w1.heap.size ⟨rb, rn⟩ ∧ GRow GR.cells 2 w4.drew w4.drew.heap.size A1 us ∧ GRow GR.cells 2 w4.drew w4.drew.heap.size A2 fl := ⟨HB4.out.drew, RB.next HX4.out (Below.refl _ w4).drew, GRow.next HU4.out (Below.refl _ w4).drew, GRow.next HF4.out (Below.refl _ w4).drew⟩
  refine wp_region_growS (S := fun W => Below w.heap.size w W ∧ RB W w1.heap.size ⟨rb, rn⟩ ∧ GRow GR.cells 2 W W.heap.size A1 us ∧ GRow GR.cells 2 W W.heap.size A2 fl) [(0, true), (2, true), (3, true), (4, true), (5, true), (1, false), (6, true)] (by kernel_rfl) (by kernel_rfl) (by kernel_rfl) (by kernel_rfl) (by intro c a d v w h; cases d <;> exact h) hS ?_
  iterate 5
    (first
      | (refine wpGrowS_float (v := ?_) (by simp only [List.getElem?_toArray, List.getElem?_cons_succ, List.getElem?_cons_zero]; rfl) (by rfl) ?_ ?_
         rotate_left
         · (intro W hW; obtain ⟨f1a, f1b, _, _⟩ := RB.facts (hW.2.1); go_simp; try with_reducible rfl)
         simp only [Act.put, List.setIfInBounds_toArray, List.set_cons_zero, List.set_cons_succ])
      | (refine wpGrowS_skip (by simp only [List.getElem?_toArray, List.getElem?_cons_succ, List.getElem?_cons_zero]; rfl) (by rfl) ?_
         simp only [Act.put, List.setIfInBounds_toArray, List.set_cons_zero, List.set_cons_succ]))
  refine wpGrowS_call (by simp only [List.getElem?_toArray, List.getElem?_cons_succ, List.getElem?_cons_zero]; rfl) (by rfl) fun K hK => ?_
  go_simp
  go_fit (HCV.out A2 c2 _ hS.2.2.2)
  rintro e wn ⟨rfl, hbn⟩
  have hSp := hS
  have hS : Below w.heap.size w wn ∧ RB wn w1.heap.size ⟨rb, rn⟩ ∧ GRow GR.cells 2 wn wn.heap.size A1 us ∧ GRow GR.cells 2 wn wn.heap.size A2 fl := ⟨beln (hS.1) hbn, RB.next (hS.2.1) hbn, GRow.next (hS.2.2.1) hbn, GRow.next (hS.2.2.2) hbn⟩
  go_simp
  refine hK _ _ hS ?_
  clear hK K
  try simp only [Act.put, List.setIfInBounds_toArray, List.set_cons_zero, List.set_cons_succ]
  iterate 1
    (first
      | (refine wpGrowS_float (v := ?_) (by simp only [List.getElem?_toArray, List.getElem?_cons_succ, List.getElem?_cons_zero]; rfl) (by rfl) ?_ ?_
         rotate_left
         · (intro W hW; obtain ⟨f1a, f1b, _, _⟩ := RB.facts (hW.2.1); go_simp; try with_reducible rfl)
         simp only [Act.put, List.setIfInBounds_toArray, List.set_cons_zero, List.set_cons_succ])
      | (refine wpGrowS_skip (by simp only [List.getElem?_toArray, List.getElem?_cons_succ, List.getElem?_cons_zero]; rfl) (by rfl) ?_
         simp only [Act.put, List.setIfInBounds_toArray, List.set_cons_zero, List.set_cons_succ]))
  refine wpGrowS_nil ?_
  have HS5 := Lib.hid hS
  clear hS hbn
  generalize wn = w5 at *
  by_cases hcz : cv = z
  · have hone : fl = [⟨rb, rn⟩] := HCW.out.1 hcz
    subst hone
    have hf := HS5.out.2.2.2
    obtain ⟨b2, o2, rfl, hb2, q0, q1⟩ := hf.rng (k := 0) (by simp)
    clear q0 q1
    simp only [List.length_singleton] at *
    subst hcz
    go_upto_region 5 with fail
    have hS : Below w.heap.size w w5.drew ∧ RB w5.drew w1.heap.size ⟨rb, rn⟩ ∧ GRow GR.cells 2 w5.drew w5.drew.heap.size (some ⟨b2, o2, none⟩) [⟨rb, rn⟩] := ⟨HS5.out.1.drew, RB.next HS5.out.2.1 (Below.refl _ w5).drew, GRow.next hf (Below.refl _ w5).drew⟩
    refine wp_region_growS (S := fun W => Below w.heap.size w W ∧ RB W w1.heap.size ⟨rb, rn⟩ ∧ GRow GR.cells 2 W W.heap.size (some ⟨b2, o2, none⟩) [⟨rb, rn⟩]) [(0, true), (1, true), (2, true), (3, true), (4, true), (5, true), (6, true), (7, true), (8, true), (9, true), (10, true), (11, false), (12, true), (13, true)] (by kernel_rfl) (by kernel_rfl) (by kernel_rfl) (by kernel_rfl) (by intro c a d v w h; cases d <;> exact h) hS ?_
    iterate 11
      (first
        | (refine wpGrowS_float (v := ?_) (by simp only [List.getElem?_toArray, List.getElem?_cons_succ, List.getElem?_cons_zero]; rfl) (by rfl) ?_ ?_
           rotate_left
           · (intro W hW; obtain ⟨f1a, f1b, _, _⟩ := RB.facts (hW.2.1); obtain ⟨q0, q1⟩ := (hW.2.2).rngAt (k := 0) (by simp); simp only [Nat.zero_mul, Nat.add_zero, List.getElem_cons_zero] at q0 q1; go_simp; try with_reducible rfl)
           simp only [Act.put, List.setIfInBounds_toArray, List.set_cons_zero, List.set_cons_succ])
        | (refine wpGrowS_skip (by simp only [List.getElem?_toArray, List.getElem?_cons_succ, List.getElem?_cons_zero]; rfl) (by rfl) ?_
           simp only [Act.put, List.setIfInBounds_toArray, List.set_cons_zero, List.set_cons_succ]))
    refine wpGrowS_call (by simp only [List.getElem?_toArray, List.getElem?_cons_succ, List.getElem?_cons_zero]; rfl) (by rfl) fun K hK => ?_
    go_simp
    go_fit (HAW.out _ (hS.1))
    rintro e wn ⟨rfl, hbn⟩
    have hSp := hS
    have hS : Below w.heap.size w wn ∧ RB wn w1.heap.size ⟨rb, rn⟩ ∧ GRow GR.cells 2 wn wn.heap.size (some ⟨b2, o2, none⟩) [⟨rb, rn⟩] := ⟨beln (hS.1) hbn, RB.next (hS.2.1) hbn, GRow.next (hS.2.2) hbn⟩
    go_simp
    refine hK _ _ hS ?_
    clear hK K
    try simp only [Act.put, List.setIfInBounds_toArray, List.set_cons_zero, List.set_cons_succ]
    iterate 2
      (first
        | (refine wpGrowS_float (v := ?_) (by simp only [List.getElem?_toArray, List.getElem?_cons_succ, List.getElem?_cons_zero]; rfl) (by rfl) ?_ ?_
           rotate_left
           · (intro W hW; obtain ⟨f1a, f1b, _, _⟩ := RB.facts (hW.2.1); obtain ⟨q0, q1⟩ := (hW.2.2).rngAt (k := 0) (by simp); simp only [Nat.zero_mul, Nat.add_zero, List.getElem_cons_zero] at q0 q1; go_simp; try with_reducible rfl)
           simp only [Act.put, List.setIfInBounds_toArray, List.set_cons_zero, List.set_cons_succ])
        | (refine wpGrowS_skip (by simp only [List.getElem?_toArray, List.getElem?_cons_succ, List.getElem?_cons_zero]; rfl) (by rfl) ?_
           simp only [Act.put, List.setIfInBounds_toArray, List.set_cons_zero, List.set_cons_succ]))
    refine wpGrowS_nil ?_
    have HEND := Lib.hid hS.1
    clear hS hbn
    go_wp2
    go_ret
    exact ⟨rfl, HEND.out⟩
  · have f1 : (cv == z) = false := by simpa using hcz
    have HNE : Hid (fl ≠ [⟨rb, rn⟩]) := Lib.hid fun e => hcz (HCW.out.2 e)
    obtain ⟨r0, r1, _, _⟩ := RB.facts HS5.out.2.1
    by_cases h6 : rn = 6
    · have hnil : fl = [] := HS6.out HNE.out h6
      have HHE : Hid (halvesV ⟨rb, rn⟩ = .tuple #[zR.val, zR.val, .bool false]) := Lib.hid (by unfold halvesV hasH; rw [h6]; simp)
      rw [HHE.out] at HPH
      simp only [GR.val, zR] at HPH
      subst hnil
      subst h6
      simp only [List.length_nil] at *
      clear hcz hsh hsh2 hcu hmin
      go_wp2_with fail
      go_fit (HPH.out _)
      rintro e w6 ⟨rfl, hb6⟩
      have HB6 := Lib.hid (belt (belt (beln HS5.out.1 hb6) (.cells #[.int .i64 0, .int .i64 0] 23)) (.cells #[.int .i64 0, .int .i64 0] 23))
      clear hb6
      go_wp2_with fail
      go_fit (HAW.out _ (HB6.out))
      rintro e w7 ⟨rfl, hb7⟩
      have HB7 := Lib.hid (beln HB6.out hb7)
      clear hb7
      go_wp2
      go_ret
      exact ⟨rfl, HB7.out⟩
    · have HHE : Hid (halvesV ⟨rb, rn⟩ = .tuple #[(lowR ⟨rb, rn⟩).val, (highR ⟨rb, rn⟩).val, .bool true]) := Lib.hid (by unfold halvesV hasH; rw [vR_iff.2 HVR.out, decide_eq_true h6]; rfl)
      rw [HHE.out] at HPH
      have HEQ := Lib.hid (HS7.out HNE.out h6)
      have HFL1 := Lib.hid fun A c W h hb => pFree_any (lowR ⟨rb, rn⟩) us A c W h (by omega) (T10.next hG hb)
      have HFL2 := Lib.hid fun A c W h hb => pFree_any (highR ⟨rb, rn⟩) us A c W h (by omega) (T10.next hG hb)
      have hL1 := freeL_len (lowR ⟨rb, rn⟩) us
      have hL2 := freeL_len (highR ⟨rb, rn⟩) us
      generalize freeL (lowR ⟨rb, rn⟩) us = l1 at *
      generalize freeL (highR ⟨rb, rn⟩) us = l2 at *
      generalize lowR ⟨rb, rn⟩ = lw at *
      generalize highR ⟨rb, rn⟩ = hg at *
      obtain ⟨lb, ln⟩ := lw
      obtain ⟨gb, gn⟩ := hg
      obtain rfl : fl = l1 ++ l2 := HEQ.out
      have HSM := Lib.hid fun A B c d W h1 h2 => rSame_any (l1 ++ l2) (l1 ++ l2) A B c d W h1 h2 (by omega) (by omega)
      simp only [decide_true] at HSM
      simp only [GR.val] at HPH HFL1 HFL2
      have hlap : (l1 ++ l2).length = l1.length + l2.length := List.length_append
      rw [List.length_append] at HSM
      clear hcz hsh hsh2 hcu hmin
      go_wp2_with fail
      go_fit (HPH.out _)
      rintro e w6 ⟨rfl, hb6⟩
      have hal := belt (belt hb6 (.cells #[.int .i64 lb, .int .i64 ln] 23)) (.cells #[.int .i64 gb, .int .i64 gn] 23)
      have HBW7 := Lib.hid (belt (belt (beln HS5.out.1 hb6) (.cells #[.int .i64 lb, .int .i64 ln] 23)) (.cells #[.int .i64 gb, .int .i64 gn] 23))
      have HY7 : Hid (RB ((w6.alloc (.cells #[.int .i64 lb, .int .i64 ln] 23)).alloc (.cells #[.int .i64 gb, .int .i64 gn] 23)) w6.heap.size ⟨lb, ln⟩) := Lib.hid ((RB.new w6 ⟨lb, ln⟩).next ((Below.refl _ _).alloc (Nat.le_refl _) _))
      have HZ7 : Hid (RB ((w6.alloc (.cells #[.int .i64 lb, .int .i64 ln] 23)).alloc (.cells #[.int .i64 gb, .int .i64 gn] 23)) (w6.heap.size + 1) ⟨gb, gn⟩) := Lib.hid (by
        have h9 := RB.new (w6.alloc (.cells #[.int .i64 lb, .int .i64 ln] 23)) ⟨gb, gn⟩
        simpa using h9)
      have HU7 := Lib.hid (GRow.next HS5.out.2.2.1 hal)
      have HF7 := Lib.hid (GRow.next HS5.out.2.2.2 hal)
      clear hb6 hal r0 r1
      go_upto_region 9 with fail
      generalize ((w6.alloc (.cells #[.int .i64 lb, .int .i64 ln] 23)).alloc (.cells #[.int .i64 gb, .int .i64 gn] 23)) = w7 at *
      have H76 : Hid (w6.heap.size + 1 < w7.heap.size) := Lib.hid (RB.lt HZ7.out)
      have hS : Below w.heap.size w w7.drew ∧ Below w7.heap.size w7 w7.drew ∧ RB w7.drew w6.heap.size ⟨lb, ln⟩ ∧ RB w7.drew (w6.heap.size + 1) ⟨gb, gn⟩ ∧ (GRow GR.cells 2 w7.drew w7.heap.size A1 us ∧ w7.heap.size ≤ w7.drew.heap.size) ∧ (GRow GR.cells 2 w7.drew w7.heap.size A2 (l1 ++ l2) ∧ w7.heap.size ≤ w7.drew.heap.size) := ⟨HBW7.out.drew, (Below.refl _ w7).drew, RB.next HY7.out (Below.refl _ w7).drew, RB.next HZ7.out (Below.refl _ w7).drew, RowB.next ⟨HU7.out, Nat.le_refl _⟩ (Below.refl _ w7).drew, RowB.next ⟨HF7.out, Nat.le_refl _⟩ (Below.refl _ w7).drew⟩
      refine wp_region_growS (S := fun W => Below w.heap.size w W ∧ Below w7.heap.size w7 W ∧ RB W w6.heap.size ⟨lb, ln⟩ ∧ RB W (w6.heap.size + 1) ⟨gb, gn⟩ ∧ (GRow GR.cells 2 W w7.heap.size A1 us ∧ w7.heap.size ≤ W.heap.size) ∧ (GRow GR.cells 2 W w7.heap.size A2 (l1 ++ l2) ∧ w7.heap.size ≤ W.heap.size)) [(0, true), (1, true), (2, true), (5, true), (6, true), (3, false), (4, false), (7, false), (8, false), (9, false), (10, false), (11, true), (12, false), (13, true), (14, true)] (by kernel_rfl) (by kernel_rfl) (by kernel_rfl) (by kernel_rfl) (by intro c a d v w h; cases d <;> exact h) hS ?_
      iterate 5
        (first
          | (refine wpGrowS_float (v := ?_) (by simp only [List.getElem?_toArray, List.getElem?_cons_succ, List.getElem?_cons_zero]; rfl) (by rfl) ?_ ?_
             rotate_left
             · (intro W hW; obtain ⟨f2a, f2b, _, _⟩ := RB.facts (hW.2.2.1); obtain ⟨f3a, f3b, _, _⟩ := RB.facts (hW.2.2.2.1); go_simp; try with_reducible rfl)
             simp only [Act.put, List.setIfInBounds_toArray, List.set_cons_zero, List.set_cons_succ])
          | (refine wpGrowS_skip (by simp only [List.getElem?_toArray, List.getElem?_cons_succ, List.getElem?_cons_zero]; rfl) (by rfl) ?_
             simp only [Act.put, List.setIfInBounds_toArray, List.set_cons_zero, List.set_cons_succ]))
      refine wpGrowS_call (by simp only [List.getElem?_toArray, List.getElem?_cons_succ, List.getElem?_cons_zero]; rfl) (by rfl) fun K hK => ?_
      go_simp
      go_fit (HCP.out A1 c1 _ (RowB.row hS.2.2.2.2.1))
      rintro e wn ⟨v5, rfl, ho5, hbn⟩
      have hSp := hS
      have hS : Below w.heap.size w wn ∧ Below w7.heap.size w7 wn ∧ RB wn w6.heap.size ⟨lb, ln⟩ ∧ RB wn (w6.heap.size + 1) ⟨gb, gn⟩ ∧ (GRow GR.cells 2 wn w7.heap.size A1 us ∧ w7.heap.size ≤ wn.heap.size) ∧ (GRow GR.cells 2 wn w7.heap.size A2 (l1 ++ l2) ∧ w7.heap.size ≤ wn.heap.size) := ⟨beln (hS.1) hbn, beln (hS.2.1) hbn, RB.next (hS.2.2.1) hbn, RB.next (hS.2.2.2.1) hbn, RowB.next (hS.2.2.2.2.1) hbn, RowB.next (hS.2.2.2.2.2) hbn⟩
      obtain ⟨A5, c5, rfl, hc5, hm5, hr5⟩ := ho5.row GR.len
      go_simp
      refine hK _ _ hS ?_
      clear hK K
      try simp only [Act.put, List.setIfInBounds_toArray, List.set_cons_zero, List.set_cons_succ]
      refine wpGrowS_call (by simp only [List.getElem?_toArray, List.getElem?_cons_succ, List.getElem?_cons_zero]; rfl) (by rfl) fun K hK => ?_
      go_simp
      go_fit (HFL1.out A5 c5 _ hr5 (hS.1))
      rintro e wn ⟨v6, rfl, ho6, hbn⟩
      have hSp := hS
      have hS : Below w.heap.size w wn ∧ Below w7.heap.size w7 wn ∧ RB wn w6.heap.size ⟨lb, ln⟩ ∧ RB wn (w6.heap.size + 1) ⟨gb, gn⟩ ∧ (GRow GR.cells 2 wn w7.heap.size A1 us ∧ w7.heap.size ≤ wn.heap.size) ∧ (GRow GR.cells 2 wn w7.heap.size A2 (l1 ++ l2) ∧ w7.heap.size ≤ wn.heap.size) := ⟨beln (hS.1) hbn, beln (hS.2.1) hbn, RB.next (hS.2.2.1) hbn, RB.next (hS.2.2.2.1) hbn, RowB.next (hS.2.2.2.2.1) hbn, RowB.next (hS.2.2.2.2.2) hbn⟩
      have ho6 := OwnR.base ho6 hSp.2.1.size
      go_simp
      refine hK _ _ hS ?_
      clear hK K
      try simp only [Act.put, List.setIfInBounds_toArray, List.set_cons_zero, List.set_cons_succ]
      refine wpGrowS_call (by simp only [List.getElem?_toArray, List.getElem?_cons_succ, List.getElem?_cons_zero]; rfl) (by rfl) fun K hK => ?_
      go_simp
      go_fit (HCP.out A1 c1 _ (RowB.row hS.2.2.2.2.1))
      rintro e wn ⟨v7, rfl, ho7, hbn⟩
      have hSp := hS
      have hS : Below w.heap.size w wn ∧ Below w7.heap.size w7 wn ∧ RB wn w6.heap.size ⟨lb, ln⟩ ∧ RB wn (w6.heap.size + 1) ⟨gb, gn⟩ ∧ (GRow GR.cells 2 wn w7.heap.size A1 us ∧ w7.heap.size ≤ wn.heap.size) ∧ (GRow GR.cells 2 wn w7.heap.size A2 (l1 ++ l2) ∧ w7.heap.size ≤ wn.heap.size) := ⟨beln (hS.1) hbn, beln (hS.2.1) hbn, RB.next (hS.2.2.1) hbn, RB.next (hS.2.2.2.1) hbn, RowB.next (hS.2.2.2.2.1) hbn, RowB.next (hS.2.2.2.2.2) hbn⟩
      have ho6 := OwnG.next ho6 hbn
      obtain ⟨A7, c7, rfl, hc7, hm7, hr7⟩ := ho7.row GR.len
      go_simp
      refine hK _ _ hS ?_
      clear hK K
      try simp only [Act.put, List.setIfInBounds_toArray, List.set_cons_zero, List.set_cons_succ]
      refine wpGrowS_call (by simp only [List.getElem?_toArray, List.getElem?_cons_succ, List.getElem?_cons_zero]; rfl) (by rfl) fun K hK => ?_
      go_simp
      go_fit (HFL2.out A7 c7 _ hr7 (hS.1))
      rintro e wn ⟨v8, rfl, ho8, hbn⟩
      have hSp := hS
      have hS : Below w.heap.size w wn ∧ Below w7.heap.size w7 wn ∧ RB wn w6.heap.size ⟨lb, ln⟩ ∧ RB wn (w6.heap.size + 1) ⟨gb, gn⟩ ∧ (GRow GR.cells 2 wn w7.heap.size A1 us ∧ w7.heap.size ≤ wn.heap.size) ∧ (GRow GR.cells 2 wn w7.heap.size A2 (l1 ++ l2) ∧ w7.heap.size ≤ wn.heap.size) := ⟨beln (hS.1) hbn, beln (hS.2.1) hbn, RB.next (hS.2.2.1) hbn, RB.next (hS.2.2.2.1) hbn, RowB.next (hS.2.2.2.2.1) hbn, RowB.next (hS.2.2.2.2.2) hbn⟩
      have ho6 := OwnG.next ho6 hbn
      go_simp
      refine hK _ _ hS ?_
      clear hK K
      try simp only [Act.put, List.setIfInBounds_toArray, List.set_cons_zero, List.set_cons_succ]
      obtain ⟨A8, c8, rfl, hc8, hm8, hr8⟩ := ho8.row GR.len
      obtain ⟨v9, w9, hrun9, hown9, hg9, _⟩ := OwnG.app elt_rng GR.len GR.one ho6 c8 hr8 hS.2.1.size (by unfold maxLen; omega) (by omega)
      have hlow : ∀ g, Value.ownBlock v6 = some g → w7.heap.size ≤ g := fun g e => (ho6.lt g e).1
      have h76 : w6.heap.size + 1 < w7.heap.size := H76.out
      have hw7 : w.heap.size ≤ w7.heap.size := HBW7.out.size
      have hS9 : Below w.heap.size w w9 ∧ Below w7.heap.size w7 w9 ∧ RB w9 w6.heap.size ⟨lb, ln⟩ ∧ RB w9 (w6.heap.size + 1) ⟨gb, gn⟩ ∧ (GRow GR.cells 2 w9 w7.heap.size A1 us ∧ w7.heap.size ≤ w9.heap.size) ∧ (GRow GR.cells 2 w9 w7.heap.size A2 (l1 ++ l2) ∧ w7.heap.size ≤ w9.heap.size) := ⟨hS.1.grown hg9 hS.1.size (fun g e => by have := hlow g e; omega), hS.2.1.grown hg9 hS.2.1.size (fun g e => hlow g e), RB.gb hS.2.2.1 hg9 (fun e => by have := hlow _ e; omega), RB.gb hS.2.2.2.1 hg9 (fun e => by have := hlow _ e; omega), RowB.gb hS.2.2.2.2.1 hg9 (fun g e => hlow g e), RowB.gb hS.2.2.2.2.2 hg9 (fun g e => hlow g e)⟩
      refine wpGrowS_call (by simp only [List.getElem?_toArray, List.getElem?_cons_succ, List.getElem?_cons_zero]; rfl) (by rfl) fun K hK => ?_
      refine oper_app10 (R := fun v W => v = v9 ∧ W = w9) ⟨v9, w9, hrun9, rfl, rfl⟩ rfl rfl rfl rfl ?_
      rintro v8 w8 ⟨rfl, rfl⟩
      refine hK _ _ hS9 ?_
      clear hK K
      try simp only [Act.put, List.setIfInBounds_toArray, List.set_cons_zero, List.set_cons_succ]
      obtain ⟨A9, c9, hv9, hc9, hm9, hr9⟩ := OwnG.row GR.len hown9
      rw [List.length_append] at hv9
      subst hv9
      have hS := hS9
      refine wpGrowS_call (by simp only [List.getElem?_toArray, List.getElem?_cons_succ, List.getElem?_cons_zero]; rfl) (by rfl) fun K hK => ?_
      go_simp
      go_fit (HSM.out A2 A9 c2 c9 _ (RowB.row hS.2.2.2.2.2) hr9)
      rintro e wn ⟨rfl, hbn⟩
      have hSp := hS
      have hS : Below w.heap.size w wn ∧ Below w7.heap.size w7 wn ∧ RB wn w6.heap.size ⟨lb, ln⟩ ∧ RB wn (w6.heap.size + 1) ⟨gb, gn⟩ ∧ (GRow GR.cells 2 wn w7.heap.size A1 us ∧ w7.heap.size ≤ wn.heap.size) ∧ (GRow GR.cells 2 wn w7.heap.size A2 (l1 ++ l2) ∧ w7.heap.size ≤ wn.heap.size) := ⟨beln (hS.1) hbn, beln (hS.2.1) hbn, RB.next (hS.2.2.1) hbn, RB.next (hS.2.2.2.1) hbn, RowB.next (hS.2.2.2.2.1) hbn, RowB.next (hS.2.2.2.2.2) hbn⟩
      go_simp
      refine hK _ _ hS ?_
      clear hK K
      try simp only [Act.put, List.setIfInBounds_toArray, List.set_cons_zero, List.set_cons_succ]
      iterate 1
        (first
          | (refine wpGrowS_float (v := ?_) (by simp only [List.getElem?_toArray, List.getElem?_cons_succ, List.getElem?_cons_zero]; rfl) (by rfl) ?_ ?_
             rotate_left
             · (intro W hW; obtain ⟨f2a, f2b, _, _⟩ := RB.facts (hW.2.2.1); obtain ⟨f3a, f3b, _, _⟩ := RB.facts (hW.2.2.2.1); go_simp; try with_reducible rfl)
             simp only [Act.put, List.setIfInBounds_toArray, List.set_cons_zero, List.set_cons_succ])
          | (refine wpGrowS_skip (by simp only [List.getElem?_toArray, List.getElem?_cons_succ, List.getElem?_cons_zero]; rfl) (by rfl) ?_
             simp only [Act.put, List.setIfInBounds_toArray, List.set_cons_zero, List.set_cons_succ]))
      refine wpGrowS_call (by simp only [List.getElem?_toArray, List.getElem?_cons_succ, List.getElem?_cons_zero]; rfl) (by rfl) fun K hK => ?_
      go_simp
      go_fit (HAW.out _ (hS.1))
      rintro e wn ⟨rfl, hbn⟩
      have hSp := hS
      have hS : Below w.heap.size w wn ∧ Below w7.heap.size w7 wn ∧ RB wn w6.heap.size ⟨lb, ln⟩ ∧ RB wn (w6.heap.size + 1) ⟨gb, gn⟩ ∧ (GRow GR.cells 2 wn w7.heap.size A1 us ∧ w7.heap.size ≤ wn.heap.size) ∧ (GRow GR.cells 2 wn w7.heap.size A2 (l1 ++ l2) ∧ w7.heap.size ≤ wn.heap.size) := ⟨beln (hS.1) hbn, beln (hS.2.1) hbn, RB.next (hS.2.2.1) hbn, RB.next (hS.2.2.2.1) hbn, RowB.next (hS.2.2.2.2.1) hbn, RowB.next (hS.2.2.2.2.2) hbn⟩
      go_simp
      refine hK _ _ hS ?_
      clear hK K
      try simp only [Act.put, List.setIfInBounds_toArray, List.set_cons_zero, List.set_cons_succ]
      iterate 2
        (first
          | (refine wpGrowS_float (v := ?_) (by simp only [List.getElem?_toArray, List.getElem?_cons_succ, List.getElem?_cons_zero]; rfl) (by rfl) ?_ ?_
             rotate_left
             · (intro W hW; obtain ⟨f2a, f2b, _, _⟩ := RB.facts (hW.2.2.1); obtain ⟨f3a, f3b, _, _⟩ := RB.facts (hW.2.2.2.1); go_simp; try with_reducible rfl)
             simp only [Act.put, List.setIfInBounds_toArray, List.set_cons_zero, List.set_cons_succ])
          | (refine wpGrowS_skip (by simp only [List.getElem?_toArray, List.getElem?_cons_succ, List.getElem?_cons_zero]; rfl) (by rfl) ?_
             simp only [Act.put, List.setIfInBounds_toArray, List.set_cons_zero, List.set_cons_succ]))
      refine wpGrowS_nil ?_
      have HEND := Lib.hid hS.1
      clear hS hbn
      go_wp2
      go_ret
      exact ⟨rfl, HEND.out⟩
end Go.Proofs.YtlndafkmihdbmaaDoor
