/-
  The law RangeMaximal returns true.
  Conditions: none.
-/
import Derived.Test.YtlndafkmihdbmaaDoorLre
namespace Go.Proofs.YtlndafkmihdbmaaDoor
open Go.RowKit

theorem hR_keep {w w' : World} {A : Option Addr} {len cap : Nat} {zs : List Int} (h : IRow w w.heap.size A len cap zs) (hb : Below w.heap.size w w') : IRow w' w'.heap.size A len cap zs :=
  ⟨h.count, h.le, h.max, fun hn => by
    obtain ⟨b, off, e, hlt, hc⟩ := (h.below (Nat.le_refl _) hb).row hn
    exact ⟨b, off, e, Nat.lt_of_lt_of_le hlt hb.size, hc⟩, h.wf⟩
theorem shl_two {n : Int} (h0 : 0 ≤ n) (h1 : n ≤ 60) : wrap64 (2 * 2 ^ n.toNat) = 2 * pw n := by
  have hp := pw_pos n
  have hl : pw n ≤ pw 60 := pw_le h1 h0
  have h6 : pw 60 = 1152921504606846976 := by decide
  exact IntWalk.wrap64_in _ (by unfold pw at *; omega)
theorem any_snoc {us : List GR} {p : GR → Bool} {k : Nat} (h : k < us.length) : (us.take (k + 1)).any p = ((us.take k).any p || p us[k]) := by
  rw [List.take_succ_eq_append_getElem h, List.any_append]; simp
set_option maxRecDepth 20000 in
set_option maxHeartbeats 8000000 in
theorem lmaximal (a b : Int) (A : Option Addr) (len cap : Nat) (zs : List Int) (w : World) (hr : IRow w w.heap.size A len cap zs) (hG : T10 w) :
    Calls Tryd.prog 10 #[.int .i64 a, .int .i64 b, .slice A len cap] w fun e w' => e = .returned (.bool true) ∧ Below w.heap.size w w' := by
  have HSM := Lib.hid fun a b W => mSmall_any a b W
  have HSS := Lib.hid fun W h => mSmalls_any A len cap zs W h
  have HAW := Lib.hid fun W hb => awake10 W (T10.next hG hb)
  have HR0 := Lib.hid hr
  clear hr
  go_enter Tryd.func10, Tryd.ntmps10
  go_wp2_with fail
  go_fit (HSM.out a b _)
  rintro e w1 ⟨⟨rb, rn⟩, hvr, h16, htop, rfl, hb1⟩
  have HB1 := Lib.hid (belt hb1 (.cells #[.int .i64 rb, .int .i64 rn] 23))
  have HVR := Lib.hid hvr
  have H16 := Lib.hid h16
  have HTOP := Lib.hid htop
  have HX1 := Lib.hid (RB.new w1 ⟨rb, rn⟩)
  have HI1 := Lib.hid (HSS.out _ (hR_keep HR0.out (belt hb1 (.cells #[.int .i64 rb, .int .i64 rn] 23))))
  clear hb1 hvr h16 htop HSM HSS HR0
  simp only [GR.val]
  go_wp2_with fail
  go_fit HI1.out
  rintro e w2 ⟨v2, rfl, us, hs2⟩
  have ho2 := hs2.own
  have HUV := Lib.hid hs2.ok
  have hul := hs2.few
  have hb2 := hs2.bel
  obtain ⟨A1, c1, rfl, hc1, hm1, hr1⟩ := ho2.row GR.len
  have HU2 := Lib.hid hr1
  have HO2 := Lib.hid ho2
  have HX2 := Lib.hid (RB.next HX1.out hb2)
  have HB2 := Lib.hid (beln HB1.out hb2)
  have HUL := Lib.hid hul
  have HCP := Lib.hid fun A c W h => copied_any us A c W h (by omega)
  have HPF := Lib.hid fun A c W h hb => pFree_any ⟨rb, rn⟩ us A c W h (by omega) (T10.next hG hb)
  obtain ⟨fl, hfl⟩ : ∃ x, x = freeL ⟨rb, rn⟩ us := ⟨_, rfl⟩
  have HLL := Lib.hid (freeL_len ⟨rb, rn⟩ us)
  have HFS := Lib.hid (freeL_spec us HVR.out)
  simp only [GR.val] at HPF
  clear hs2 ho2 hb2 hc1 hm1 hr1 HI1
  rw [← hfl] at HPF HLL HFS
  have HFL := Lib.hid hfl
  clear hfl
  go_upto_region 3 with fail
  have hS : Below w.heap.size w w2.drew ∧ RB w2.drew w1.heap.size ⟨rb, rn⟩ ∧ GRow GR.cells 2 w2.drew w2.drew.heap.size A1 us := ⟨HB2.out.drew, RB.next HX2.out (Below.refl _ w2).drew, GRow.next HU2.out (Below.refl _ w2).drew⟩
  refine wp_region_growS (S := fun W => Below w.heap.size w W ∧ RB W w1.heap.size ⟨rb, rn⟩ ∧ GRow GR.cells 2 W W.heap.size A1 us) [(0, true), (1, true), (2, false), (3, false), (4, true)] (by kernel_rfl) (by kernel_rfl) (by kernel_rfl) (by kernel_rfl) (by intro c a d v w h; cases d <;> exact h) hS ?_
  iterate 2
    (first
      | (refine wpGrowS_float (v := ?_) (by simp only [List.getElem?_toArray, List.getElem?_cons_succ, List.getElem?_cons_zero]; rfl) (by rfl) ?_ ?_
         rotate_left
         · (intro W hW; obtain ⟨f1a, f1b, _, _⟩ := RB.facts (hW.2.1); go_simp; try with_reducible rfl)
         simp only [Act.put, List.setIfInBounds_toArray, List.set_cons_zero, List.set_cons_succ])
      | (refine wpGrowS_skip (by simp only [List.getElem?_toArray, List.getElem?_cons_succ, List.getElem?_cons_zero]; rfl) (by rfl) ?_
         simp only [Act.put, List.setIfInBounds_toArray, List.set_cons_zero, List.set_cons_succ]))
  refine wpGrowS_call (by simp only [List.getElem?_toArray, List.getElem?_cons_succ, List.getElem?_cons_zero]; rfl) (by rfl) fun K hK => ?_
  go_simp
  go_fit (HCP.out A1 c1 _ hS.2.2)
  rintro e wn ⟨v3, rfl, ho3, hbn⟩
  have hS : Below w.heap.size w wn ∧ RB wn w1.heap.size ⟨rb, rn⟩ ∧ GRow GR.cells 2 wn wn.heap.size A1 us := ⟨beln (hS.1) hbn, RB.next (hS.2.1) hbn, GRow.next (hS.2.2) hbn⟩
  obtain ⟨A3, c3, rfl, hc3, hm3, hr3⟩ := ho3.row GR.len
  go_simp
  refine hK _ _ hS ?_
  clear hK K
  try simp only [Act.put, List.setIfInBounds_toArray, List.set_cons_zero, List.set_cons_succ]
  refine wpGrowS_call (by simp only [List.getElem?_toArray, List.getElem?_cons_succ, List.getElem?_cons_zero]; rfl) (by rfl) fun K hK => ?_
  go_simp
  go_fit (HPF.out A3 c3 _ hr3 (hS.1))
  rintro e wn ⟨v4, rfl, ho4, hbn⟩
  have hS : Below w.heap.size w wn ∧ RB wn w1.heap.size ⟨rb, rn⟩ ∧ GRow GR.cells 2 wn wn.heap.size A1 us := ⟨beln (hS.1) hbn, RB.next (hS.2.1) hbn, GRow.next (hS.2.2) hbn⟩
  go_simp
  refine hK _ _ hS ?_
  clear hK K
  try simp only [Act.put, List.setIfInBounds_toArray, List.set_cons_zero, List.set_cons_succ]
  iterate 1
    (first
      | (refine wpGrowS_float (v := ?_) (by simp only [List.getElem?_toArray, List.getElem?_cons_succ, List.getElem?_cons_zero]; rfl) (by rfl) ?_ ?_
         rotate_left
         · (intro W hW; obtain ⟨f1a, f1b, _, _⟩ := RB.facts (hW.2.1); go_simp; try with_reducible rfl)
         simp only [Act.put, List.setIfInBounds_toArray, List.set_cons_zero, List.set_cons_succ])
      | (refine wpGrowS_skip (by simp only [List.getElem?_toArray, List.getElem?_cons_succ, List.getElem?_cons_zero]; rfl) (by rfl) ?_
         simp only [Act.put, List.setIfInBounds_toArray, List.set_cons_zero, List.set_cons_succ]))
  refine wpGrowS_nil ?_
  obtain ⟨A2, c2, rfl, hc2, hm2, hr2⟩ := ho4.row GR.len
  have HB4 := Lib.hid hS.1
  have HX4 := Lib.hid hS.2.1
  have HU4 := Lib.hid hS.2.2
  have HF4 := Lib.hid hr2
  have hfl := HLL.out
  clear hS hbn ho3 ho4 hc3 hm3 hr3 hc2 hm2 hr2 HB2 HX2 HU2
  generalize wn = w4 at *
  have hul := HUL.out
  go_wp2
  go_loopw [10] (fun vi wr => ∃ i : Nat, vi = .int .i64 i ∧ i ≤ fl.length ∧ Hid (Below w4.heap.size w4 wr)) (fun vi _ => fl.length - (intOf vi).toNat)
  case atStart => exact ⟨0, rfl, Nat.zero_le _, Lib.hid (Below.refl _ _)⟩
  case round =>
    obtain ⟨i, rfl, hi, HB⟩ := hrel
    have HBW := Lib.hid (beln HB4.out HB.out)
    have HXR := Lib.hid (RB.next HX4.out HB.out)
    have HUR := Lib.hid (HU4.out.next HB.out)
    generalize wr = wA at *
    rcases Nat.lt_or_ge i fl.length with hlt | hge
    · obtain ⟨b2, o2, rfl, hb2, x0, x1⟩ := (HF4.out.next HB.out).rng hlt
      have HMEM : Hid (fl[i] ∈ fl) := Lib.hid (List.getElem_mem hlt)
      obtain ⟨z0, z1, _, _⟩ := RB.facts HXR.out
      have HXF := Lib.hid (RB.next HXR.out (belt (Below.refl _ wA) (.cells #[.int .i64 fl[i].base, .int .i64 fl[i].bits] 23)))
      have HFB := Lib.hid (RB.new wA fl[i])
      generalize hfi : fl[i] = f at *
      obtain ⟨fb, fn⟩ := f
      simp only at x0 x1 HXF HFB
      clear hfi
      have HVF := Lib.hid ((HFS.out.good _ HMEM.out).1)
      by_cases he : (⟨fb, fn⟩ : GR) = ⟨rb, rn⟩
      · have HONE : Hid (fl.length = 1) := Lib.hid (by
          have h1 := (HFS.out.good _ HMEM.out).2.2
          rw [he] at h1
          rw [HFL.out, (freeL_one HVR.out).2 h1]; rfl)
        injection he with e1 e2
        subst e1 e2
        have HA := Lib.hid (HAW.out (wA.alloc (.cells #[.int .i64 fb, .int .i64 fn] 23)) (belt HBW.out _))
        have HBA := Lib.hid (belt HBW.out (.cells #[.int .i64 fb, .int .i64 fn] 23))
        obtain ⟨y0, y1, _, _⟩ := RB.facts HXF.out
        obtain ⟨y2, y3, _, _⟩ := RB.facts HFB.out
        have h1 := HONE.out
        have f1 : ((fl.length : Int) == 1) = true := by rw [h1]; rfl
        go_wp2_with fail
        go_fit HA.out
        rintro e w5 ⟨rfl, hb5⟩
        have HB5 := Lib.hid (beln HBA.out hb5)
        clear hb5
        go_wp2
        go_ret
        exact ⟨rfl, HB5.out⟩
      · have hne : ¬ (fb = rb ∧ fn = rn) := fun ⟨e1, e2⟩ => he (by rw [e1, e2])
        have HMX := Lib.hid (HFS.out.max _ HMEM.out he)
        have v1 := HVF.out.lo
        have v2 := HVF.out.hi
        have v3 := HVF.out.b0
        have v4 : fb + pw fn ≤ 1099511627776 := HVF.out.top
        simp only at v1 v2 v3
        have hz2 : wrap64 (2 * 2 ^ fn.toNat) = 2 * pw fn := shl_two (by omega) (by omega)
        have hcu : IntKind.u64.wrap fn = fn := by rw [IntKind.wrap_u64]; omega
        have hmin : min fn.toNat 64 = fn.toNat := by omega
        have HTW : Hid (twR ⟨fb, fn⟩ = ⟨fb - fb % (2 * pw fn), fn + 1⟩) := Lib.hid rfl
        have hzp := pw_pos fn
        have hzt := pw_top (n := fn) (by omega) (by omega)
        generalize pw fn = z at *
        have m0 := Int.emod_nonneg fb (show 2 * z ≠ 0 by omega)
        have m1 := Int.emod_lt_of_pos fb (show 0 < 2 * z by omega)
        have hw8 : wrap64 (fb - fb % (2 * z)) = fb - fb % (2 * z) := IntWalk.wrap64_in _ (by omega)
        have hw9 : wrap64 (fn + 1) = fn + 1 := IntWalk.wrap64_in _ (by omega)
        obtain ⟨y0, y1, _, _⟩ := RB.facts HXF.out
        obtain ⟨y2, y3, yz0, yz1⟩ := RB.facts HFB.out
        have HBF := Lib.hid (belt HBW.out (.cells #[.int .i64 fb, .int .i64 fn] 23))
        clear he v4
        by_cases hfb : fb = rb
        · have hne2 : ¬ fn = rn := fun e => hne ⟨hfb, e⟩
          clear hne
          obtain rfl : rb = fb := hfb.symm
          go_upto_region 10 with fail
          go_region
          go_wp2_with fail
          have HBD : Hid (Below wA.heap.size wA ((wA.alloc (.cells #[.int .i64 rb, .int .i64 fn] 23)).alloc (.cells #[.int .i64 (rb - rb % (2 * z)), .int .i64 (fn + 1)] 23)).drew) := Lib.hid (belt (belt (Below.refl _ wA) _) _).drew
          have HTD : Hid (RB ((wA.alloc (.cells #[.int .i64 rb, .int .i64 fn] 23)).alloc (.cells #[.int .i64 (rb - rb % (2 * z)), .int .i64 (fn + 1)] 23)).drew (wA.heap.size + 1) ⟨rb - rb % (2 * z), fn + 1⟩) := Lib.hid (by
            have h9 := RB.new (wA.alloc (.cells #[.int .i64 rb, .int .i64 fn] 23)) ⟨rb - rb % (2 * z), fn + 1⟩
            have h8 : RB ((wA.alloc (.cells #[.int .i64 rb, .int .i64 fn] 23)).alloc (.cells #[.int .i64 (rb - rb % (2 * z)), .int .i64 (fn + 1)] 23)) (wA.heap.size + 1) ⟨rb - rb % (2 * z), fn + 1⟩ := by simpa using h9
            exact h8)
          have HUD := Lib.hid (HUR.out.next HBD.out)
          generalize ((wA.alloc (.cells #[.int .i64 rb, .int .i64 fn] 23)).alloc (.cells #[.int .i64 (rb - rb % (2 * z)), .int .i64 (fn + 1)] 23)).drew = wD at *
          generalize rb - rb % (2 * z) = tb at *
          generalize fn + 1 = tn at *
          generalize wA.heap.size + 1 = N12 at *
          rw [HTW.out] at HMX
          have HANY : Hid (us.any (ovR ⟨tb, tn⟩) = true) := Lib.hid (List.any_eq_true.2 HMX.out)
          clear y0 y1 y2 y3 yz0 yz1 x0 x1 z0 z1 hz2 hcu hmin hw8 hw9 m0 m1 hzp hzt HMX HTW
          go_loopw [13, 14] (fun v13 v14 wr => ∃ k : Nat, v14 = .int .i64 k ∧ k ≤ us.length ∧ v13 = .bool ((us.take k).any (ovR ⟨tb, tn⟩)) ∧ Hid (Below wD.heap.size wD wr)) (fun _ v14 _ => us.length - (intOf v14).toNat)
          case atStart => exact ⟨0, rfl, Nat.zero_le _, by simp, Lib.hid (Below.refl _ _)⟩
          case round =>
            obtain ⟨k, rfl, hk, rfl, HBK⟩ := hrel
            rcases Nat.lt_or_ge k us.length with hk2 | hk2
            · obtain ⟨b3, o3, rfl, hb3, _, _⟩ := (HUD.out.next HBK.out).rng hk2
              have HAS := Lib.hid (any_snoc (p := ovR ⟨tb, tn⟩) hk2)
              have hS : Below wD.heap.size wD wr.drew ∧ RB wr.drew N12 ⟨tb, tn⟩ ∧ GRow GR.cells 2 wr.drew wr.drew.heap.size (some ⟨b3, o3, none⟩) us := ⟨HBK.out.drew, RB.next (RB.next HTD.out HBK.out) (Below.refl _ wr).drew, GRow.next (GRow.next HUD.out HBK.out) (Below.refl _ wr).drew⟩
              have HOK := fun W => rOv_any ⟨tb, tn⟩ us[k] W
              simp only [GR.val] at HOK
              generalize hh : (us.take k).any (ovR ⟨tb, tn⟩) = hit at *
              generalize ovR ⟨tb, tn⟩ us[k] = ov at *
              clear hh
              cases hit
              · go_upto_region 15 with fail
                refine wp_region_growS (S := fun W => Below wD.heap.size wD W ∧ RB W N12 ⟨tb, tn⟩ ∧ GRow GR.cells 2 W W.heap.size (some ⟨b3, o3, none⟩) us) [(0, true), (1, true), (2, true), (3, true), (4, true), (5, true), (6, true), (7, false), (8, true), (9, true)] (by kernel_rfl) (by kernel_rfl) (by kernel_rfl) (by kernel_rfl) (by intro c a d v w h; cases d <;> exact h) hS ?_
                iterate 7
                  (first
                    | (refine wpGrowS_float (v := ?_) (by simp only [List.getElem?_toArray, List.getElem?_cons_succ, List.getElem?_cons_zero]; rfl) (by rfl) ?_ ?_
                       rotate_left
                       · (intro W hW; obtain ⟨f1a, f1b, _, _⟩ := RB.facts (hW.2.1); obtain ⟨q0, q1⟩ := (hW.2.2).rngAt hk2; go_simp; try with_reducible rfl)
                       simp only [Act.put, List.setIfInBounds_toArray, List.set_cons_zero, List.set_cons_succ])
                    | (refine wpGrowS_skip (by simp only [List.getElem?_toArray, List.getElem?_cons_succ, List.getElem?_cons_zero]; rfl) (by rfl) ?_
                       simp only [Act.put, List.setIfInBounds_toArray, List.set_cons_zero, List.set_cons_succ]))
                refine wpGrowS_call (by simp only [List.getElem?_toArray, List.getElem?_cons_succ, List.getElem?_cons_zero]; rfl) (by rfl) fun K hK => ?_
                go_simp
                go_fit (HOK _)
                rintro e wn ⟨rfl, hbn⟩
                have hS : Below wD.heap.size wD wn ∧ RB wn N12 ⟨tb, tn⟩ ∧ GRow GR.cells 2 wn wn.heap.size (some ⟨b3, o3, none⟩) us := ⟨beln (hS.1) hbn, RB.next (hS.2.1) hbn, GRow.next (hS.2.2) hbn⟩
                go_simp
                refine hK _ _ hS ?_
                clear hK K
                try simp only [Act.put, List.setIfInBounds_toArray, List.set_cons_zero, List.set_cons_succ]
                iterate 2
                  (first
                    | (refine wpGrowS_float (v := ?_) (by simp only [List.getElem?_toArray, List.getElem?_cons_succ, List.getElem?_cons_zero]; rfl) (by rfl) ?_ ?_
                       rotate_left
                       · (intro W hW; obtain ⟨f1a, f1b, _, _⟩ := RB.facts (hW.2.1); obtain ⟨q0, q1⟩ := (hW.2.2).rngAt hk2; go_simp; try with_reducible rfl)
                       simp only [Act.put, List.setIfInBounds_toArray, List.set_cons_zero, List.set_cons_succ])
                    | (refine wpGrowS_skip (by simp only [List.getElem?_toArray, List.getElem?_cons_succ, List.getElem?_cons_zero]; rfl) (by rfl) ?_
                       simp only [Act.put, List.setIfInBounds_toArray, List.set_cons_zero, List.set_cons_succ]))
                refine wpGrowS_nil ?_
                have HBE := Lib.hid hS.1
                clear hS hbn HOK
                go_wp2
                go_roundw
                case rel => exact ⟨k + 1, by go_num, by omega, by rw [HAS.out]; simp, HBE⟩
                case measure => simp [intOf]; omega
              · go_upto_region 15 with fail
                refine wp_region_growS (S := fun W => Below wD.heap.size wD W ∧ RB W N12 ⟨tb, tn⟩ ∧ GRow GR.cells 2 W W.heap.size (some ⟨b3, o3, none⟩) us) [(0, true), (1, true), (2, true), (3, true), (4, true), (5, true), (6, true), (7, false), (8, true), (9, true)] (by kernel_rfl) (by kernel_rfl) (by kernel_rfl) (by kernel_rfl) (by intro c a d v w h; cases d <;> exact h) hS ?_
                iterate 7
                  (first
                    | (refine wpGrowS_float (v := ?_) (by simp only [List.getElem?_toArray, List.getElem?_cons_succ, List.getElem?_cons_zero]; rfl) (by rfl) ?_ ?_
                       rotate_left
                       · (intro W hW; obtain ⟨f1a, f1b, _, _⟩ := RB.facts (hW.2.1); obtain ⟨q0, q1⟩ := (hW.2.2).rngAt hk2; go_simp; try with_reducible rfl)
                       simp only [Act.put, List.setIfInBounds_toArray, List.set_cons_zero, List.set_cons_succ])
                    | (refine wpGrowS_skip (by simp only [List.getElem?_toArray, List.getElem?_cons_succ, List.getElem?_cons_zero]; rfl) (by rfl) ?_
                       simp only [Act.put, List.setIfInBounds_toArray, List.set_cons_zero, List.set_cons_succ]))
                refine wpGrowS_pass hS (by simp only [List.getElem?_toArray, List.getElem?_cons_succ, List.getElem?_cons_zero]; rfl) (by rfl) ?_
                try simp only [Act.put, List.setIfInBounds_toArray, List.set_cons_zero, List.set_cons_succ]
                iterate 2
                  (first
                    | (refine wpGrowS_float (v := ?_) (by simp only [List.getElem?_toArray, List.getElem?_cons_succ, List.getElem?_cons_zero]; rfl) (by rfl) ?_ ?_
                       rotate_left
                       · (intro W hW; obtain ⟨f1a, f1b, _, _⟩ := RB.facts (hW.2.1); obtain ⟨q0, q1⟩ := (hW.2.2).rngAt hk2; go_simp; try with_reducible rfl)
                       simp only [Act.put, List.setIfInBounds_toArray, List.set_cons_zero, List.set_cons_succ])
                    | (refine wpGrowS_skip (by simp only [List.getElem?_toArray, List.getElem?_cons_succ, List.getElem?_cons_zero]; rfl) (by rfl) ?_
                       simp only [Act.put, List.setIfInBounds_toArray, List.set_cons_zero, List.set_cons_succ]))
                refine wpGrowS_nil ?_
                have HBE := Lib.hid hS.1
                clear hS HOK
                go_wp2
                go_roundw
                case rel => exact ⟨k + 1, by go_num, by omega, by rw [HAS.out]; simp, HBE⟩
                case measure => simp [intOf]; omega
            · have hkk : k = us.length := by omega
              have HBE := Lib.hid (beln (beln HB.out HBD.out) HBK.out)
              have h1 := HANY.out
              rw [List.take_of_length_le hk2, h1]
              subst hkk
              go_wp2
              go_roundw
              case rel => exact ⟨i + 1, by go_num, by omega, HBE⟩
              case measure => simp [intOf]; omega
        · clear hne
          go_upto_region 10 with fail
          go_region
          go_wp2_with fail
          have HBD : Hid (Below wA.heap.size wA ((wA.alloc (.cells #[.int .i64 fb, .int .i64 fn] 23)).alloc (.cells #[.int .i64 (fb - fb % (2 * z)), .int .i64 (fn + 1)] 23)).drew) := Lib.hid (belt (belt (Below.refl _ wA) _) _).drew
          have HTD : Hid (RB ((wA.alloc (.cells #[.int .i64 fb, .int .i64 fn] 23)).alloc (.cells #[.int .i64 (fb - fb % (2 * z)), .int .i64 (fn + 1)] 23)).drew (wA.heap.size + 1) ⟨fb - fb % (2 * z), fn + 1⟩) := Lib.hid (by
            have h9 := RB.new (wA.alloc (.cells #[.int .i64 fb, .int .i64 fn] 23)) ⟨fb - fb % (2 * z), fn + 1⟩
            have h8 : RB ((wA.alloc (.cells #[.int .i64 fb, .int .i64 fn] 23)).alloc (.cells #[.int .i64 (fb - fb % (2 * z)), .int .i64 (fn + 1)] 23)) (wA.heap.size + 1) ⟨fb - fb % (2 * z), fn + 1⟩ := by simpa using h9
            exact h8)
          have HUD := Lib.hid (HUR.out.next HBD.out)
          generalize ((wA.alloc (.cells #[.int .i64 fb, .int .i64 fn] 23)).alloc (.cells #[.int .i64 (fb - fb % (2 * z)), .int .i64 (fn + 1)] 23)).drew = wD at *
          generalize fb - fb % (2 * z) = tb at *
          generalize fn + 1 = tn at *
          generalize wA.heap.size + 1 = N12 at *
          rw [HTW.out] at HMX
          have HANY : Hid (us.any (ovR ⟨tb, tn⟩) = true) := Lib.hid (List.any_eq_true.2 HMX.out)
          clear y0 y1 y2 y3 yz0 yz1 x0 x1 z0 z1 hz2 hcu hmin hw8 hw9 m0 m1 hzp hzt HMX HTW
          go_loopw [13, 14] (fun v13 v14 wr => ∃ k : Nat, v14 = .int .i64 k ∧ k ≤ us.length ∧ v13 = .bool ((us.take k).any (ovR ⟨tb, tn⟩)) ∧ Hid (Below wD.heap.size wD wr)) (fun _ v14 _ => us.length - (intOf v14).toNat)
          case atStart => exact ⟨0, rfl, Nat.zero_le _, by simp, Lib.hid (Below.refl _ _)⟩
          case round =>
            obtain ⟨k, rfl, hk, rfl, HBK⟩ := hrel
            rcases Nat.lt_or_ge k us.length with hk2 | hk2
            · obtain ⟨b3, o3, rfl, hb3, _, _⟩ := (HUD.out.next HBK.out).rng hk2
              have HAS := Lib.hid (any_snoc (p := ovR ⟨tb, tn⟩) hk2)
              have hS : Below wD.heap.size wD wr.drew ∧ RB wr.drew N12 ⟨tb, tn⟩ ∧ GRow GR.cells 2 wr.drew wr.drew.heap.size (some ⟨b3, o3, none⟩) us := ⟨HBK.out.drew, RB.next (RB.next HTD.out HBK.out) (Below.refl _ wr).drew, GRow.next (GRow.next HUD.out HBK.out) (Below.refl _ wr).drew⟩
              have HOK := fun W => rOv_any ⟨tb, tn⟩ us[k] W
              simp only [GR.val] at HOK
              generalize hh : (us.take k).any (ovR ⟨tb, tn⟩) = hit at *
              generalize ovR ⟨tb, tn⟩ us[k] = ov at *
              clear hh
              cases hit
              · go_upto_region 15 with fail
                refine wp_region_growS (S := fun W => Below wD.heap.size wD W ∧ RB W N12 ⟨tb, tn⟩ ∧ GRow GR.cells 2 W W.heap.size (some ⟨b3, o3, none⟩) us) [(0, true), (1, true), (2, true), (3, true), (4, true), (5, true), (6, true), (7, false), (8, true), (9, true)] (by kernel_rfl) (by kernel_rfl) (by kernel_rfl) (by kernel_rfl) (by intro c a d v w h; cases d <;> exact h) hS ?_
                iterate 7
                  (first
                    | (refine wpGrowS_float (v := ?_) (by simp only [List.getElem?_toArray, List.getElem?_cons_succ, List.getElem?_cons_zero]; rfl) (by rfl) ?_ ?_
                       rotate_left
                       · (intro W hW; obtain ⟨f1a, f1b, _, _⟩ := RB.facts (hW.2.1); obtain ⟨q0, q1⟩ := (hW.2.2).rngAt hk2; go_simp; try with_reducible rfl)
                       simp only [Act.put, List.setIfInBounds_toArray, List.set_cons_zero, List.set_cons_succ])
                    | (refine wpGrowS_skip (by simp only [List.getElem?_toArray, List.getElem?_cons_succ, List.getElem?_cons_zero]; rfl) (by rfl) ?_
                       simp only [Act.put, List.setIfInBounds_toArray, List.set_cons_zero, List.set_cons_succ]))
                refine wpGrowS_call (by simp only [List.getElem?_toArray, List.getElem?_cons_succ, List.getElem?_cons_zero]; rfl) (by rfl) fun K hK => ?_
                go_simp
                go_fit (HOK _)
                rintro e wn ⟨rfl, hbn⟩
                have hS : Below wD.heap.size wD wn ∧ RB wn N12 ⟨tb, tn⟩ ∧ GRow GR.cells 2 wn wn.heap.size (some ⟨b3, o3, none⟩) us := ⟨beln (hS.1) hbn, RB.next (hS.2.1) hbn, GRow.next (hS.2.2) hbn⟩
                go_simp
                refine hK _ _ hS ?_
                clear hK K
                try simp only [Act.put, List.setIfInBounds_toArray, List.set_cons_zero, List.set_cons_succ]
                iterate 2
                  (first
                    | (refine wpGrowS_float (v := ?_) (by simp only [List.getElem?_toArray, List.getElem?_cons_succ, List.getElem?_cons_zero]; rfl) (by rfl) ?_ ?_
                       rotate_left
                       · (intro W hW; obtain ⟨f1a, f1b, _, _⟩ := RB.facts (hW.2.1); obtain ⟨q0, q1⟩ := (hW.2.2).rngAt hk2; go_simp; try with_reducible rfl)
                       simp only [Act.put, List.setIfInBounds_toArray, List.set_cons_zero, List.set_cons_succ])
                    | (refine wpGrowS_skip (by simp only [List.getElem?_toArray, List.getElem?_cons_succ, List.getElem?_cons_zero]; rfl) (by rfl) ?_
                       simp only [Act.put, List.setIfInBounds_toArray, List.set_cons_zero, List.set_cons_succ]))
                refine wpGrowS_nil ?_
                have HBE := Lib.hid hS.1
                clear hS hbn HOK
                go_wp2
                go_roundw
                case rel => exact ⟨k + 1, by go_num, by omega, by rw [HAS.out]; simp, HBE⟩
                case measure => simp [intOf]; omega
              · go_upto_region 15 with fail
                refine wp_region_growS (S := fun W => Below wD.heap.size wD W ∧ RB W N12 ⟨tb, tn⟩ ∧ GRow GR.cells 2 W W.heap.size (some ⟨b3, o3, none⟩) us) [(0, true), (1, true), (2, true), (3, true), (4, true), (5, true), (6, true), (7, false), (8, true), (9, true)] (by kernel_rfl) (by kernel_rfl) (by kernel_rfl) (by kernel_rfl) (by intro c a d v w h; cases d <;> exact h) hS ?_
                iterate 7
                  (first
                    | (refine wpGrowS_float (v := ?_) (by simp only [List.getElem?_toArray, List.getElem?_cons_succ, List.getElem?_cons_zero]; rfl) (by rfl) ?_ ?_
                       rotate_left
                       · (intro W hW; obtain ⟨f1a, f1b, _, _⟩ := RB.facts (hW.2.1); obtain ⟨q0, q1⟩ := (hW.2.2).rngAt hk2; go_simp; try with_reducible rfl)
                       simp only [Act.put, List.setIfInBounds_toArray, List.set_cons_zero, List.set_cons_succ])
                    | (refine wpGrowS_skip (by simp only [List.getElem?_toArray, List.getElem?_cons_succ, List.getElem?_cons_zero]; rfl) (by rfl) ?_
                       simp only [Act.put, List.setIfInBounds_toArray, List.set_cons_zero, List.set_cons_succ]))
                refine wpGrowS_pass hS (by simp only [List.getElem?_toArray, List.getElem?_cons_succ, List.getElem?_cons_zero]; rfl) (by rfl) ?_
                try simp only [Act.put, List.setIfInBounds_toArray, List.set_cons_zero, List.set_cons_succ]
                iterate 2
                  (first
                    | (refine wpGrowS_float (v := ?_) (by simp only [List.getElem?_toArray, List.getElem?_cons_succ, List.getElem?_cons_zero]; rfl) (by rfl) ?_ ?_
                       rotate_left
                       · (intro W hW; obtain ⟨f1a, f1b, _, _⟩ := RB.facts (hW.2.1); obtain ⟨q0, q1⟩ := (hW.2.2).rngAt hk2; go_simp; try with_reducible rfl)
                       simp only [Act.put, List.setIfInBounds_toArray, List.set_cons_zero, List.set_cons_succ])
                    | (refine wpGrowS_skip (by simp only [List.getElem?_toArray, List.getElem?_cons_succ, List.getElem?_cons_zero]; rfl) (by rfl) ?_
                       simp only [Act.put, List.setIfInBounds_toArray, List.set_cons_zero, List.set_cons_succ]))
                refine wpGrowS_nil ?_
                have HBE := Lib.hid hS.1
                clear hS HOK
                go_wp2
                go_roundw
                case rel => exact ⟨k + 1, by go_num, by omega, by rw [HAS.out]; simp, HBE⟩
                case measure => simp [intOf]; omega
            · have hkk : k = us.length := by omega
              have HBE := Lib.hid (beln (beln HB.out HBD.out) HBK.out)
              have h1 := HANY.out
              rw [List.take_of_length_le hk2, h1]
              subst hkk
              go_wp2
              go_roundw
              case rel => exact ⟨i + 1, by go_num, by omega, HBE⟩
              case measure => simp [intOf]; omega
    · obtain rfl : i = fl.length := by omega
      go_wp2_with fail
      go_fit (HAW.out _ (HBW.out))
      rintro e w5 ⟨rfl, hb5⟩
      have HB5 := Lib.hid (beln HBW.out hb5)
      clear hb5
      go_wp2
      go_ret
      exact ⟨rfl, HB5.out⟩
end Go.Proofs.YtlndafkmihdbmaaDoor
