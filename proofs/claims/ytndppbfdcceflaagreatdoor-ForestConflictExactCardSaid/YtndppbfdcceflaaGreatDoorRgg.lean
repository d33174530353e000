/-
  The reference's Free: the free ranges as the plain function has them, in memory of the call's own.
  Conditions: at most 100000 used ranges.
-/
import Derived.Test.YtndppbfdcceflaaGreatDoorRgf
import Derived.Test.YtndppbfdcceflaaGreatDoorGrs
namespace Go.Proofs.YtndppbfdcceflaaGreatDoor

open Go.RowKit

theorem elt_rng : Elt 61 58 2 16 := Elt.of (.agg #[.int .i64 0, .int .i64 0]) Tryz.underlying61 (by kernel_rfl) rfl (by decide)
abbrev OwnR (w : World) (base : Nat) (v : Value) (xs : List GR) : Prop := OwnG GR.cells 58 2 w base v xs
/-- How Free ends: the ranges l in memory of the call's own. -/
def FreeEnd (l : List GR) (w : World) (e : Ending) (w' : World) : Prop := ∃ v, e = .returned v ∧ OwnR w' w.heap.size v l ∧ Below w.heap.size w w'
theorem sum_len : ∀ {l : List GR}, (∀ f ∈ l, VR f) → 64 * (l.length : Int) ≤ sumSz l
  | [], _ => by simp [sumSz]
  | f :: l, h => by
    have h1 := sum_len (l := l) fun g hg => h g (by simp [hg])
    have h2 : pw 6 ≤ f.sz := pw_le (h f (by simp)).lo (by omega)
    have h3 : pw 6 = 64 := by decide
    rw [sumSz, List.length_cons]
    omega
/-- There are at most 2^34 free ranges. -/
theorem free_len {r : GR} (us : List GR) (h : VR r) (k : Nat) (hk : r.bits ≤ k + 5) : (freeF k r us).length ≤ 17179869184 := by
  have S := free_spec k r us h hk
  have hs := sum_len fun f hf => (S.good f hf).1
  have hp := sz_pos r
  have hc := sum_cnt (a := r.base) (n := r.sz.toNat) (l := freeF k r us) (fun f hf => by
    have := con_iff.1 (S.good f hf).2.1
    exact ⟨this.2.1, by omega, by omega⟩) S.asc
  have hm : cnt (inL (freeF k r us)) r.base r.sz.toNat ≤ cnt (fun _ => true) r.base r.sz.toNat := cnt_mono fun _ _ _ _ => rfl
  rw [cnt_all fun _ _ _ => rfl] at hm
  have := h.top
  have := h.b0
  omega
theorem lit_rng (w : World) (r : GR) : GRow GR.cells 2 (w.alloc (.cells #[.int .i64 r.base, .int .i64 r.bits] 58)) (w.heap.size + 1) (some ⟨w.heap.size, 0, none⟩) [r] := by
  have h := (OwnG.lit GR.len w w.heap.size (T := 58) [r] #[.int .i64 r.base, .int .i64 r.bits] rfl (Nat.le_refl _) (by unfold maxLen; simp)).row GR.len
  obtain ⟨A, c, e, _, _, hr⟩ := h
  cases e
  simpa using hr
/-- One range more on a row of the call's own. -/
theorem OwnR.snoc {w w0 : World} {v : Value} {xs : List GR} (h : OwnR w w0.heap.size v xs) (hb : Below w0.heap.size w0 w) (r : GR) (hl : xs.length ≤ 68719476736) :
    ∃ v' w', (Builtin.append_ #[61, 61] 61 #[v, .slice (some ⟨w.heap.size, 0, none⟩) 1 1]).run Tryz.prog (w.alloc (.cells #[.int .i64 r.base, .int .i64 r.bits] 58)) = .ok v' w' ∧ OwnR w' w0.heap.size v' (xs ++ [r]) ∧ Below w0.heap.size w0 w' := by
  have hs := hb.size
  obtain ⟨v', w', hrun, hown, hg, _⟩ := OwnG.app elt_rng GR.len GR.one (h.alloc (.cells #[.int .i64 r.base, .int .i64 r.bits] 58)) 1 (lit_rng w r) (by simp; omega) (by unfold maxLen; simp; omega) (by simp; omega)
  exact ⟨v', w', hrun, hown, (hb.alloc hs _).grown hg (by simp; omega) (fun g e => (h.lt g e).1)⟩
theorem ov_snoc {r : GR} {us : List GR} {k : Nat} (h : k < us.length) : (us.take (k + 1)).filter (ovR r) = (us.take k).filter (ovR r) ++ (if ovR r us[k] = true then [us[k]] else []) := by
  rw [List.take_succ_eq_append_getElem h, List.filter_append]
  cases hp : ovR r us[k] <;> simp [hp]
theorem OwnR.base {w : World} {b b' : Nat} {v : Value} {l : List GR} (h : OwnR w b v l) (hb : b' ≤ b) : OwnR w b' v l := by
  refine ⟨h.1, ?_⟩
  rcases h.2 with hh | ⟨g, c, cur, e1, hbs, rest⟩
  · exact .inl hh
  · exact .inr ⟨g, c, cur, e1, by omega, rest⟩
theorem RB.gb {W W' : World} {N : Nat} {r : GR} {o : Option Nat} (h : RB W N r) (hg : W.grownBy W' o) (hne : o ≠ some N) : RB W' N r := (hg.block N h.lt (fun e => hne e.symm)).trans h
set_option maxRecDepth 20000 in
theorem rFree_bad (r : GR) (A : Option Addr) (n c : Nat) (w : World) (h : ¬ VR r) : Calls Tryz.prog 85 #[r.val, .slice A n c] w (FreeEnd [] w) := by
  have HV := Lib.hid fun W => rValid_any r W
  rw [vR_not.2 h] at HV
  obtain ⟨b, m⟩ := r
  simp only [GR.val] at *
  clear h
  go_enter Tryz.func85, Tryz.ntmps85
  go_wp2_with fail
  go_fit (HV.out _)
  rintro e w1 ⟨rfl, hb1⟩
  have HB1 := Lib.hid (bela (Below.refl _ w) hb1)
  clear hb1 HV
  go_wp2
  go_ret
  exact ⟨_, rfl, OwnG.nil _ _, HB1.out⟩
set_option maxRecDepth 20000 in
set_option maxHeartbeats 1000000 in
theorem rFree_any : ∀ (k : Nat) (r : GR) (us : List GR) (A : Option Addr) (c : Nat) (w : World), VR r → r.bits ≤ k + 5 → GRow GR.cells 2 w w.heap.size A us → us.length ≤ 100000 →
    Calls Tryz.prog 85 #[r.val, .slice A us.length c] w (FreeEnd (freeF k r us) w)
  | 0, r, _, _, _, _, h, hk, _, _ => absurd h.lo (by omega)
  | k + 1, r, us, A, c, w, h, hk, hrow, hus => by
    have HIH := Lib.hid fun r us A c w => rFree_any k r us A c w
    have HV := Lib.hid fun W => rValid_any r W
    rw [vR_iff.2 h] at HV
    have HU := Lib.hid hrow
    have HOV := Lib.hid fun u W => rOv_any r u W
    have HCO := Lib.hid fun u W => rCon_any u r W
    have HHV := Lib.hid fun W => rHalves_any r W
    have HF := Lib.hid (freeF_succ k r us)
    have HH := Lib.hid h
    have HK := Lib.hid hk
    have HUL := Lib.hid hus
    have HRB := Lib.hid (RB.new w r)
    generalize hq : freeF (k + 1) r us = q at *
    obtain ⟨rb, rn⟩ := r
    simp only [GR.val] at *
    clear h hk hrow hus hq
    go_enter Tryz.func85, Tryz.ntmps85
    go_wp2_with fail
    go_fit (HV.out _)
    rintro e w1 ⟨rfl, hb1⟩
    have HR1 := Lib.hid (HRB.out.next hb1)
    have HB1 := Lib.hid (bela (Below.refl _ w) hb1)
    have HL1 : Hid (w.heap.size < w1.heap.size) := Lib.hid HR1.out.lt
    clear hb1 HV HRB
    go_wp2
    go_loopw [5, 6] (fun v5 v6 wr => ∃ j : Nat, v6 = .int .i64 j ∧ j ≤ us.length ∧ Hid (OwnR wr w1.heap.size v5 ((us.take j).filter (ovR ⟨rb, rn⟩))) ∧ Hid (Below w1.heap.size w1 wr)) (fun _ v6 _ => us.length - (intOf v6).toNat)
    case atStart => exact ⟨0, rfl, Nat.zero_le _, Lib.hid (OwnG.nil _ _), Lib.hid (Below.refl _ _)⟩
    case round =>
      obtain ⟨j, rfl, hj, HO, HB⟩ := hrel
      obtain ⟨An, cn, rfl, hcn, hmn, hrn⟩ := HO.out.row GR.len
      rcases Nat.lt_or_ge j us.length with hlt | hge
      · obtain ⟨b1, o1, rfl, hb1, x0, x1⟩ := ((HU.out.next HB1.out).next HB.out).rng hlt
        obtain ⟨r0, r1, _, _⟩ := (HR1.out.next HB.out).facts
        have HSN := Lib.hid (ov_snoc (r := ⟨rb, rn⟩) hlt)
        have hfl : ((us.take j).filter (ovR ⟨rb, rn⟩)).length ≤ 100000 := Nat.le_trans (List.length_filter_le _ _) (by rw [List.length_take]; have := HUL.out; omega)
        have HOJ := Lib.hid (HOV.out us[j] wr.drew)
        generalize us[j] = x at *
        obtain ⟨xb, xn⟩ := x
        simp only at *
        clear hcn hmn hrn
        go_upto_region 7 with fail
        refine wp_region_still_tail 5 (by kernel_rfl) (by kernel_rfl) ?_
        simp only [List.take_succ_cons, List.take_zero, List.drop_succ_cons, List.drop_zero]
        repeat still_step
        try refine wpStill_nil ?_
        change wpList _ _ _ _ _ wr.drew
        go_wp2_with fail
        go_fit HOJ.out
        rintro e w2 ⟨rfl, hb2⟩
        have HBE := Lib.hid (HB.out.drew.trans (hb2.mono (by simpa using HB.out.size)))
        have HO2 := Lib.hid ((HO.out.next (Below.refl _ wr).drew).next hb2)
        have hrow2 := ((HU.out.next HB1.out).next HB.out).next (beln (Below.refl _ wr).drew hb2)
        have hx9 : w2.cell? ⟨b1, o1 + j * 2, none⟩ = some (.int .i64 xb) := (hb2.cell (p := ⟨b1, o1 + j * 2, none⟩) (by simpa using hb1)).trans x0
        have hx8 : w2.cell? ⟨b1, o1 + j * 2 + 1, none⟩ = some (.int .i64 xn) := (hb2.cell (p := ⟨b1, o1 + j * 2 + 1, none⟩) (by simpa using hb1)).trans x1
        have hul := HUL.out
        clear x0 x1 hb2 hrow2 r0 r1 HOJ
        cases hov : ovR ⟨rb, rn⟩ ⟨xb, xn⟩
        · have HN : Hid (OwnR w2 w1.heap.size (.slice An ((us.take j).filter (ovR ⟨rb, rn⟩)).length cn) ((us.take (j + 1)).filter (ovR ⟨rb, rn⟩))) := Lib.hid (by
            rw [HSN.out, hov, if_neg (by simp), List.append_nil]; exact HO2.out)
          clear hov
          go_wp2
          go_roundw
          case rel => exact ⟨j + 1, by go_num, by omega, HN, HBE⟩
          case measure => simp [intOf]; omega
        · obtain ⟨v9, w9, hrun, hown9, hb9⟩ := OwnR.snoc HO2.out HBE.out ⟨xb, xn⟩ (by omega)
          have HRUN := Lib.hid hrun
          have HB9 := Lib.hid hb9
          have HN : Hid (OwnR w9 w1.heap.size v9 ((us.take (j + 1)).filter (ovR ⟨rb, rn⟩))) := Lib.hid (by
            rw [HSN.out, hov, if_pos rfl]; exact hown9)
          clear hrun hown9 hb9 hov
          generalize ((us.take j).filter (ovR ⟨rb, rn⟩)).length = nl at *
          go_wp2_with (at_builtin; refine wpList_gapp HRUN.out rfl rfl rfl rfl rfl ?_)
          go_roundw
          case rel => exact ⟨j + 1, by go_num, by omega, HN, HB9⟩
          case measure => simp [intOf]; omega
      · obtain rfl : j = us.length := by omega
        rw [List.take_of_length_le (Nat.le_refl _)] at *
        have HNL : Hid ((us.filter (ovR ⟨rb, rn⟩)).length ≤ 100000) := Lib.hid (Nat.le_trans (List.length_filter_le _ _) HUL.out)
        have HBW := Lib.hid (beln HB1.out HB.out)
        have HRW := Lib.hid (HR1.out.next HB.out)
        have HRN := Lib.hid hrn
        have HNA : Hid ((us.filter (ovR ⟨rb, rn⟩)).any (fun u => conR u ⟨rb, rn⟩) = (us.filter (ovR ⟨rb, rn⟩)).any fun u => conR u ⟨rb, rn⟩) := Lib.hid rfl
        generalize hnr : us.filter (ovR ⟨rb, rn⟩) = nr at *
        clear hnr hj hge HU HO HOV HB
        obtain ⟨r0, r1, _, _⟩ := HRW.out.facts
        generalize wr = wa at *
        by_cases hn0 : nr.length = 0
        · obtain rfl : nr = [] := List.eq_nil_of_length_eq_zero hn0
          have HQ : Hid (q = [⟨rb, rn⟩]) := Lib.hid (by rw [HF.out, if_pos rfl])
          have HLIT := Lib.hid (OwnG.lit GR.len wa w.heap.size (T := 58) [⟨rb, rn⟩] #[.int .i64 rb, .int .i64 rn] rfl HBW.out.size (by unfold maxLen; simp))
          have HBL := Lib.hid (belt HBW.out (.cells #[.int .i64 rb, .int .i64 rn] 58))
          go_wp2
          go_ret
          rw [HQ.out]
          exact ⟨_, rfl, HLIT.out, HBL.out⟩
        · have f0 : ((nr.length : Int) == 0) = false := by rw [beq_eq_false_iff_ne]; omega
          have hnn : nr ≠ [] := fun e => hn0 (by rw [e]; rfl)
          rw [if_neg hnn] at HF
          have hnl := HNL.out
          clear hnn
          go_wp2
          clear f0
          go_loopw [7] (fun vi wr => ∃ j : Nat, vi = .int .i64 j ∧ j ≤ nr.length ∧ Hid ((nr.take j).any (fun u => conR u ⟨rb, rn⟩) = false) ∧ Hid (Below wa.heap.size wa wr)) (fun vi _ => nr.length - (intOf vi).toNat)
          case atStart => exact ⟨0, rfl, Nat.zero_le _, Lib.hid (by simp), Lib.hid (Below.refl _ _)⟩
          case round =>
            obtain ⟨j, rfl, hj, HT, HB⟩ := hrel
            rcases Nat.lt_or_ge j nr.length with hlt | hge
            · obtain ⟨b1, o1, rfl, hb1, x0, x1⟩ := (HRN.out.next HB.out).rng hlt
              obtain ⟨r0, r1, _, _⟩ := (HRW.out.next HB.out).facts
              have HTS : Hid ((nr.take (j + 1)).any (fun u => conR u ⟨rb, rn⟩) = ((nr.take j).any (fun u => conR u ⟨rb, rn⟩) || conR nr[j] ⟨rb, rn⟩)) := Lib.hid (by
                rw [List.take_succ_eq_append_getElem hlt, List.any_append]; simp)
              have HCJ := Lib.hid (HCO.out nr[j] wr.drew)
              have HMJ : Hid (nr[j] ∈ nr) := Lib.hid (List.getElem_mem hlt)
              generalize nr[j] = x at *
              obtain ⟨xb, xn⟩ := x
              simp only at x0 x1 HCJ
              go_upto_region 14 with fail
              refine wp_region_still_tail 5 (by kernel_rfl) (by kernel_rfl) ?_
              simp only [List.take_succ_cons, List.take_zero, List.drop_succ_cons, List.drop_zero]
              repeat still_step
              try refine wpStill_nil ?_
              change wpList _ _ _ _ _ wr.drew
              go_wp2_with fail
              go_fit HCJ.out
              rintro e w2 ⟨rfl, hb2⟩
              have HBE := Lib.hid (HB.out.drew.trans (hb2.mono (by simpa using HB.out.size)))
              clear x0 x1 hb2 r0 r1 HCJ
              cases hcv : conR ⟨xb, xn⟩ ⟨rb, rn⟩
              · have HTN : Hid ((nr.take (j + 1)).any (fun u => conR u ⟨rb, rn⟩) = false) := Lib.hid (by rw [HTS.out, HT.out, hcv]; rfl)
                clear hcv
                go_wp2
                go_roundw
                case rel => exact ⟨j + 1, by go_num, by omega, HTN, HBE⟩
                case measure => simp [intOf]; omega
              · have HQ : Hid (q = []) := Lib.hid (by rw [HF.out, if_pos (List.any_eq_true.2 ⟨_, HMJ.out, hcv⟩)])
                have HEN := Lib.hid (beln HBW.out HBE.out)
                clear hcv
                go_wp2
                go_ret
                rw [HQ.out]
                exact ⟨_, rfl, OwnG.nil _ _, HEN.out⟩
            · have HT2 : Hid (nr.any (fun u => conR u ⟨rb, rn⟩) = false) := Lib.hid (by
                have h9 := HT.out
                rwa [List.take_of_length_le hge] at h9)
              have HF2 := HF.out
              rw [if_neg (by rw [HT2.out]; simp)] at HF2
              have HF3 := Lib.hid HF2
              have HRW2 := Lib.hid (HRW.out.next HB.out)
              have HBW2 := Lib.hid (beln HBW.out HB.out)
              have HRN2 := Lib.hid (HRN.out.next HB.out)
              obtain rfl : j = nr.length := by omega
              clear HF2 HF HT HT2 hj hge HB
              generalize wr = wc at *
              obtain ⟨r0, r1, _, _⟩ := HRW2.out.facts
              by_cases h6 : rn = 6
              · have HQ : Hid (q = []) := Lib.hid (by rw [HF3.out, if_pos h6])
                have HHE : Hid (halvesV ⟨rb, rn⟩ = .tuple #[zR.val, zR.val, .bool false]) := Lib.hid (by unfold halvesV hasH; rw [h6]; simp)
                rw [HHE.out] at HHV
                simp only [GR.val, zR] at HHV
                clear h6
                go_wp2_with fail
                go_fit (HHV.out _)
                rintro e w3 ⟨rfl, hb3⟩
                have HB3 := Lib.hid (belt (belt (beln HBW2.out hb3) (.cells #[.int .i64 0, .int .i64 0] 58)) (.cells #[.int .i64 0, .int .i64 0] 58))
                go_wp2
                go_ret
                rw [HQ.out]
                exact ⟨_, rfl, OwnG.nil _ _, HB3.out⟩
              · rw [if_neg h6] at HF3
                have HHE : Hid (halvesV ⟨rb, rn⟩ = .tuple #[(lowR ⟨rb, rn⟩).val, (highR ⟨rb, rn⟩).val, .bool true]) := Lib.hid (by unfold halvesV hasH; rw [vR_iff.2 HH.out, decide_eq_true h6]; rfl)
                have HVL := Lib.hid (halves HH.out h6).low
                have HVH := Lib.hid (halves HH.out h6).high
                have HLK : Hid ((lowR ⟨rb, rn⟩).bits ≤ (k : Int) + 5 ∧ (highR ⟨rb, rn⟩).bits ≤ (k : Int) + 5) := Lib.hid (by have := HK.out; simp only [lowR, highR]; omega)
                rw [HHE.out] at HHV
                generalize lowR ⟨rb, rn⟩ = lw at *
                generalize highR ⟨rb, rn⟩ = hg at *
                obtain ⟨lb, ln⟩ := lw
                obtain ⟨gb, gn⟩ := hg
                simp only [GR.val] at HHV
                clear h6
                go_wp2_with fail
                go_fit (HHV.out _)
                rintro e w3 ⟨rfl, hb3⟩
                have HB3 := Lib.hid (beln HBW2.out hb3)
                have HRN3 := Lib.hid (HRN2.out.next hb3)
                have HI1 := Lib.hid (fun W (hr : GRow GR.cells 2 W W.heap.size An nr) => HIH.out ⟨lb, ln⟩ nr An cn W HVL.out HLK.out.1 hr HNL.out)
                have HI2 := Lib.hid (fun W (hr : GRow GR.cells 2 W W.heap.size An nr) => HIH.out ⟨gb, gn⟩ nr An cn W HVH.out HLK.out.2 hr HNL.out)
                have HL1 := Lib.hid (free_len nr HVL.out k HLK.out.1)
                have HL2 := Lib.hid (free_len nr HVH.out k HLK.out.2)
                generalize freeF k ⟨lb, ln⟩ nr = l1 at *
                generalize freeF k ⟨gb, gn⟩ nr = l2 at *
                simp only at HI1 HI2
                have HRA : Hid (RB ((w3.alloc (.cells #[.int .i64 lb, .int .i64 ln] 58)).alloc (.cells #[.int .i64 gb, .int .i64 gn] 58)) w3.heap.size ⟨lb, ln⟩) := Lib.hid ((RB.new w3 ⟨lb, ln⟩).next ((Below.refl _ _).alloc (Nat.le_refl _) _))
                have HRC : Hid (RB ((w3.alloc (.cells #[.int .i64 lb, .int .i64 ln] 58)).alloc (.cells #[.int .i64 gb, .int .i64 gn] 58)) (w3.heap.size + 1) ⟨gb, gn⟩) := Lib.hid (by
                  have h9 := RB.new (w3.alloc (.cells #[.int .i64 lb, .int .i64 ln] 58)) ⟨gb, gn⟩
                  simpa using h9)
                have HBA := Lib.hid (belt (belt HB3.out (.cells #[.int .i64 lb, .int .i64 ln] 58)) (.cells #[.int .i64 gb, .int .i64 gn] 58))
                have HRNA := Lib.hid (HRN3.out.next (belt (belt (Below.refl _ _) (.cells #[.int .i64 lb, .int .i64 ln] 58)) (.cells #[.int .i64 gb, .int .i64 gn] 58)))
                have H38 : Hid (w.heap.size ≤ w3.heap.size) := Lib.hid HB3.out.size
                clear r0 r1 hcn hmn hrn hb3 hn0 HIH HUL HCO HHV HH HK HHE
                go_upto_region 19 with fail
                generalize ((w3.alloc (.cells #[.int .i64 lb, .int .i64 ln] 58)).alloc (.cells #[.int .i64 gb, .int .i64 gn] 58)) = w4 at *
                have hS0 : Below w.heap.size w w4.drew ∧ RB w4.drew w3.heap.size ⟨lb, ln⟩ ∧ RB w4.drew (w3.heap.size + 1) ⟨gb, gn⟩ := ⟨HBA.out.drew, HRA.out, HRC.out⟩
                refine wp_region_growS (S := fun W => Below w.heap.size w W ∧ RB W w3.heap.size ⟨lb, ln⟩ ∧ RB W (w3.heap.size + 1) ⟨gb, gn⟩) [(0, true), (1, true), (3, true), (4, true), (2, false), (5, false), (6, false), (7, true)] (by kernel_rfl) (by kernel_rfl) (by kernel_rfl) (by kernel_rfl) (by intro c a d v w h; cases d <;> exact h) hS0 ?_
                iterate 4
                  (refine wpGrowS_float (v := ?_) (by simp only [List.getElem?_toArray, List.getElem?_cons_succ, List.getElem?_cons_zero]; rfl) (by rfl) ?_ ?_
                   rotate_left
                   · (intro W hW; obtain ⟨u0, u1, _, _⟩ := hW.2.1.facts; obtain ⟨u2, u3, _, _⟩ := hW.2.2.facts; go_simp; try with_reducible rfl)
                   simp only [Act.put, List.setIfInBounds_toArray, List.set_cons_zero, List.set_cons_succ])
                refine wpGrowS_call (by simp only [List.getElem?_toArray, List.getElem?_cons_succ, List.getElem?_cons_zero]; rfl) (by rfl) fun K hK => ?_
                go_simp
                go_fit (HI1.out _ (HRNA.out.next (Below.refl _ w4).drew))
                rintro e w5 ⟨v1, rfl, ho5, hb5⟩
                have hS5 : Below w.heap.size w w5 ∧ RB w5 w3.heap.size ⟨lb, ln⟩ ∧ RB w5 (w3.heap.size + 1) ⟨gb, gn⟩ := ⟨beln hS0.1 hb5, hS0.2.1.next hb5, hS0.2.2.next hb5⟩
                go_simp
                refine hK _ _ hS5 ?_
                clear hK K
                try simp only [Act.put, List.setIfInBounds_toArray, List.set_cons_zero, List.set_cons_succ]
                refine wpGrowS_call (by simp only [List.getElem?_toArray, List.getElem?_cons_succ, List.getElem?_cons_zero]; rfl) (by rfl) fun K hK => ?_
                go_simp
                go_fit (HI2.out _ ((HRNA.out.next (Below.refl _ w4).drew).next hb5))
                rintro e w6 ⟨v2, rfl, ho6, hb6⟩
                have hS6 : Below w.heap.size w w6 ∧ RB w6 w3.heap.size ⟨lb, ln⟩ ∧ RB w6 (w3.heap.size + 1) ⟨gb, gn⟩ := ⟨beln hS5.1 hb6, hS5.2.1.next hb6, hS5.2.2.next hb6⟩
                go_simp
                refine hK _ _ hS6 ?_
                clear hK K
                try simp only [Act.put, List.setIfInBounds_toArray, List.set_cons_zero, List.set_cons_succ]
                have hz4 : w3.heap.size + 1 < w4.drew.heap.size := hS0.2.2.lt
                have hz5 := hb5.size
                obtain ⟨A2, c2, rfl, hc2, hm2, hr2⟩ := ho6.row GR.len
                have h38 := H38.out
                have hl1 := HL1.out
                have hl2 := HL2.out
                obtain ⟨v7, w7, hrun7, hown7, hg7, _⟩ := OwnG.app elt_rng GR.len GR.one (ho5.next hb6) c2 hr2 (by have := hb6.size; omega) (by unfold maxLen; omega) (by omega)
                have hne : ∀ N, N < w4.drew.heap.size → v1.ownBlock ≠ some N := fun N hN e => by have := (ho5.lt N e).1; omega
                have hS7 : Below w.heap.size w w7 ∧ RB w7 w3.heap.size ⟨lb, ln⟩ ∧ RB w7 (w3.heap.size + 1) ⟨gb, gn⟩ := ⟨hS6.1.grown hg7 hS6.1.size (fun g e => by have := (ho5.lt g e).1; omega), hS6.2.1.gb hg7 (hne _ (by omega)), hS6.2.2.gb hg7 (hne _ (by omega))⟩
                refine wpGrowS_call (by simp only [List.getElem?_toArray, List.getElem?_cons_succ, List.getElem?_cons_zero]; rfl) (by rfl) fun K hK => ?_
                refine oper_app10 (R := fun v W => v = v7 ∧ W = w7) ⟨v7, w7, hrun7, rfl, rfl⟩ rfl rfl rfl rfl ?_
                rintro v9 w9 ⟨rfl, rfl⟩
                refine hK _ _ hS7 ?_
                clear hK K
                try simp only [Act.put, List.setIfInBounds_toArray, List.set_cons_zero, List.set_cons_succ]
                iterate 1
                  (refine wpGrowS_float (v := ?_) (by simp only [List.getElem?_toArray, List.getElem?_cons_succ, List.getElem?_cons_zero]; rfl) (by rfl) ?_ ?_
                   rotate_left
                   · (intro W hW; go_simp; try with_reducible rfl)
                   simp only [Act.put, List.setIfInBounds_toArray, List.set_cons_zero, List.set_cons_succ])
                refine wpGrowS_nil ?_
                have HEND : Hid (FreeEnd (l1 ++ l2) w (.returned v9) w9) := Lib.hid ⟨v9, rfl, OwnR.base hown7 (by omega), hS7.1⟩
                clear hrun7 hown7 hg7 hS7 hS6 hS5 hS0
                go_wp2
                go_ret
                rw [HF3.out]
                exact HEND.out
end Go.Proofs.YtndppbfdcceflaaGreatDoor
