/-
  The law RangePartition returns true.
  Conditions: none.
-/
import Derived.Test.YtlndafkmihdbmaaDoorLrg
namespace Go.Proofs.YtlndafkmihdbmaaDoor
open Go.RowKit

theorem filt_snoc {us : List GR} {p : GR → Bool} {k : Nat} (h : k < us.length) : (us.take (k + 1)).filter p = (us.take k).filter p ++ (if p us[k] = true then [us[k]] else []) := by
  rw [List.take_succ_eq_append_getElem h, List.filter_append]
  cases hp : p us[k] <;> simp [hp]
theorem sumSz_ap2 : ∀ (a b : List GR), sumSz (a ++ b) = sumSz a + sumSz b
  | [], b => by simp [sumSz]
  | x :: a, b => by rw [List.cons_append, sumSz, sumSz, sumSz_ap2 a b]; omega
theorem sumSz_snoc {l : List GR} {k : Nat} (h : k < l.length) : sumSz (l.take (k + 1)) = sumSz (l.take k) + l[k].sz := by
  rw [List.take_succ_eq_append_getElem h, sumSz_ap2]; simp [sumSz]
theorem wsum {s z : Int} (h0 : 0 ≤ s) (h1 : s ≤ 1125899906842624) (h2 : 0 < z) (h3 : z ≤ 1099511627776) : wrap64 (s + z) = s + z := IntWalk.wrap64_in _ (by omega)
theorem asc_prev {l : List GR} (h : l.Pairwise fun f g => f.base + f.sz ≤ g.base) {i : Nat} (hi : i + 1 < l.length) : l[i].base + l[i].sz ≤ l[i + 1].base :=
  List.pairwise_iff_getElem.1 h i (i + 1) (by omega) hi (by omega)
theorem sumSz_bound {l : List GR} (h : ∀ f ∈ l, VR f) : 0 ≤ sumSz l ∧ sumSz l ≤ l.length * 1099511627776 := by
  induction l with
  | nil => simp [sumSz]
  | cons f l ih =>
    obtain ⟨h1, h2⟩ := ih fun g hg => h g (by simp [hg])
    have h3 := (h f (by simp)).top
    have h4 := (h f (by simp)).b0
    have h5 := sz_pos f
    rw [sumSz, List.length_cons]
    omega
set_option maxRecDepth 20000 in
set_option maxHeartbeats 8000000 in
theorem lpartition (a b : Int) (A : Option Addr) (len cap : Nat) (zs : List Int) (w : World) (hr : IRow w w.heap.size A len cap zs) (hG : T10 w) :
    Calls Tryd.prog 9 #[.int .i64 a, .int .i64 b, .slice A len cap] w fun e w' => e = .returned (.bool true) ∧ Below w.heap.size w w' := by
  have HSM := Lib.hid fun a b W => mSmall_any a b W
  have HSS := Lib.hid fun W h => mSmalls_any A len cap zs W h
  have HAW := Lib.hid fun W hb => awake10 W (T10.next hG hb)
  have HR0 := Lib.hid hr
  clear hr
  go_enter Tryd.func9, Tryd.ntmps9
  go_wp2_with fail
  go_fit (HSM.out a b _)
  rintro e w1 ⟨⟨rb, rn⟩, hvr, h16, htop, rfl, hb1⟩
  have HB1 := Lib.hid (belt hb1 (.cells #[.int .i64 rb, .int .i64 rn] 23))
  have HVR := Lib.hid hvr
  have H16 := Lib.hid h16
  have HTOP := Lib.hid htop
  have HX1 := Lib.hid (RB.new w1 ⟨rb, rn⟩)
  have HI1 := Lib.hid (HSS.out _ (hR_keep HR0.out (belt hb1 (.cells #[.int .i64 rb, .int .i64 rn] 23))))
  clear hb1 hvr h16 htop HSM HSS HR0
  simp only [GR.val]
  go_wp2_with fail
  go_fit HI1.out
  rintro e w2 ⟨v2, rfl, us, hs2⟩
  have ho2 := hs2.own
  have HUV := Lib.hid hs2.ok
  have hul := hs2.few
  have hb2 := hs2.bel
  obtain ⟨A1, c1, rfl, hc1, hm1, hr1⟩ := ho2.row GR.len
  have HU2 := Lib.hid hr1
  have HO2 := Lib.hid ho2
  have HX2 := Lib.hid (RB.next HX1.out hb2)
  have HB2 := Lib.hid (beln HB1.out hb2)
  have HUL := Lib.hid hul
  have HCP := Lib.hid fun A c W h => copied_any us A c W h (by omega)
  have HPF := Lib.hid fun A c W h hb => pFree_any ⟨rb, rn⟩ us A c W h (by omega) (T10.next hG hb)
  obtain ⟨fl, hfl⟩ : ∃ x, x = freeL ⟨rb, rn⟩ us := ⟨_, rfl⟩
  have HLL := Lib.hid (freeL_len ⟨rb, rn⟩ us)
  have HFS := Lib.hid (freeL_spec us HVR.out)
  simp only [GR.val] at HPF
  clear hs2 ho2 hb2 hc1 hm1 hr1 HI1
  rw [← hfl] at HPF HLL HFS
  have HFL := Lib.hid hfl
  clear hfl
  go_upto_region 3 with fail
  have hS : Below w.heap.size w w2.drew ∧ RB w2.drew w1.heap.size ⟨rb, rn⟩ ∧ GRow GR.cells 2 w2.drew w2.drew.heap.size A1 us := ⟨HB2.out.drew, RB.next HX2.out (Below.refl _ w2).drew, GRow.next HU2.out (Below.refl _ w2).drew⟩
  refine wp_region_growS (S := fun W => Below w.heap.size w W ∧ RB W w1.heap.size ⟨rb, rn⟩ ∧ GRow GR.cells 2 W W.heap.size A1 us) [(0, true), (1, true), (2, false), (3, false), (4, true)] (by kernel_rfl) (by kernel_rfl) (by kernel_rfl) (by kernel_rfl) (by intro c a d v w h; cases d <;> exact h) hS ?_
  iterate 2
    (first
      | (refine wpGrowS_float (v := ?_) (by simp only [List.getElem?_toArray, List.getElem?_cons_succ, List.getElem?_cons_zero]; rfl) (by rfl) ?_ ?_
         rotate_left
         · (intro W hW; obtain ⟨f1a, f1b, _, _⟩ := RB.facts (hW.2.1); go_simp; try with_reducible rfl)
         simp only [Act.put, List.setIfInBounds_toArray, List.set_cons_zero, List.set_cons_succ])
      | (refine wpGrowS_skip (by simp only [List.getElem?_toArray, List.getElem?_cons_succ, List.getElem?_cons_zero]; rfl) (by rfl) ?_
         simp only [Act.put, List.setIfInBounds_toArray, List.set_cons_zero, List.set_cons_succ]))
  refine wpGrowS_call (by simp only [List.getElem?_toArray, List.getElem?_cons_succ, List.getElem?_cons_zero]; rfl) (by rfl) fun K hK => ?_
  go_simp
  go_fit (HCP.out A1 c1 _ hS.2.2)
  rintro e wn ⟨v3, rfl, ho3, hbn⟩
  have hSp := hS
  have hS : Below w.heap.size w wn ∧ RB wn w1.heap.size ⟨rb, rn⟩ ∧ GRow GR.cells 2 wn wn.heap.size A1 us := ⟨beln (hS.1) hbn, RB.next (hS.2.1) hbn, GRow.next (hS.2.2) hbn⟩
  obtain ⟨A3, c3, rfl, hc3, hm3, hr3⟩ := ho3.row GR.len
  go_simp
  refine hK _ _ hS ?_
  clear hK K
  try simp only [Act.put, List.setIfInBounds_toArray, List.set_cons_zero, List.set_cons_succ]
  refine wpGrowS_call (by simp only [List.getElem?_toArray, List.getElem?_cons_succ, List.getElem?_cons_zero]; rfl) (by rfl) fun K hK => ?_
  go_simp
  go_fit (HPF.out A3 c3 _ hr3 (hS.1))
  rintro e wn ⟨v4, rfl, ho4, hbn⟩
  have hSp := hS
  have hS : Below w.heap.size w wn ∧ RB wn w1.heap.size ⟨rb, rn⟩ ∧ GRow GR.cells 2 wn wn.heap.size A1 us := ⟨beln (hS.1) hbn, RB.next (hS.2.1) hbn, GRow.next (hS.2.2) hbn⟩
  go_simp
  refine hK _ _ hS ?_
  clear hK K
  try simp only [Act.put, List.setIfInBounds_toArray, List.set_cons_zero, List.set_cons_succ]
  iterate 1
    (first
      | (refine wpGrowS_float (v := ?_) (by simp only [List.getElem?_toArray, List.getElem?_cons_succ, List.getElem?_cons_zero]; rfl) (by rfl) ?_ ?_
         rotate_left
         · (intro W hW; obtain ⟨f1a, f1b, _, _⟩ := RB.facts (hW.2.1); go_simp; try with_reducible rfl)
         simp only [Act.put, List.setIfInBounds_toArray, List.set_cons_zero, List.set_cons_succ])
      | (refine wpGrowS_skip (by simp only [List.getElem?_toArray, List.getElem?_cons_succ, List.getElem?_cons_zero]; rfl) (by rfl) ?_
         simp only [Act.put, List.setIfInBounds_toArray, List.set_cons_zero, List.set_cons_succ]))
  refine wpGrowS_nil ?_
  obtain ⟨A2, c2, rfl, hc2, hm2, hr2⟩ := ho4.row GR.len
  have HB4 := Lib.hid hS.1
  have HX4 := Lib.hid hS.2.1
  have HU4 := Lib.hid hS.2.2
  have HF4 := Lib.hid hr2
  have hfl := HLL.out
  clear hS hbn ho3 ho4 hc3 hm3 hr3 hc2 hm2 hr2 HB2 HX2 HU2
  generalize wn = w4 at *
  have HSMA := Lib.hid (by rw [HFL.out]; exact free_small us HVR.out H16.out : fl.length ≤ 1024)
  have hul := HUL.out
  go_wp2
  go_loopw [10, 11, 12] (fun v10 v11 v12 wr => ∃ k : Nat, v12 = .int .i64 k ∧ k ≤ us.length ∧ v11 = .bool ((us.take k).any fun u => conR u ⟨rb, rn⟩) ∧ Hid (OwnR wr w4.heap.size v10 ((us.take k).filter (conR ⟨rb, rn⟩))) ∧ Hid (Below w4.heap.size w4 wr)) (fun _ _ v12 _ => us.length - (intOf v12).toNat)
  case atStart => exact ⟨0, rfl, Nat.zero_le _, by simp, Lib.hid (OwnG.nil _ _), Lib.hid (Below.refl _ _)⟩
  case round =>
    obtain ⟨k, rfl, hk, rfl, HO, HBK⟩ := hrel
    obtain ⟨Ai, ci, rfl, hci, hmi, hri⟩ := HO.out.row GR.len
    rcases Nat.lt_or_ge k us.length with hk2 | hk2
    · obtain ⟨b3, o3, rfl, hb3, _, _⟩ := (HU4.out.next HBK.out).rng hk2
      have HAS := Lib.hid (any_snoc (p := fun u => conR u ⟨rb, rn⟩) hk2)
      have HFT := Lib.hid (filt_snoc (p := conR ⟨rb, rn⟩) hk2)
      have hnl8 : ((us.take k).filter (conR ⟨rb, rn⟩)).length ≤ 40 := Nat.le_trans (List.length_filter_le _ _) (by rw [List.length_take]; omega)
      have hS : Below wr.heap.size wr wr.drew ∧ RB wr.drew w1.heap.size ⟨rb, rn⟩ ∧ GRow GR.cells 2 wr.drew wr.drew.heap.size (some ⟨b3, o3, none⟩) us := ⟨(Below.refl _ wr).drew, RB.next (RB.next HX4.out HBK.out) (Below.refl _ wr).drew, GRow.next (GRow.next HU4.out HBK.out) (Below.refl _ wr).drew⟩
      have HCA := fun W => rCon_any us[k] ⟨rb, rn⟩ W
      have HCB := fun W => rCon_any ⟨rb, rn⟩ us[k] W
      simp only [GR.val] at HCA HCB
      generalize hh : ((us.take k).any fun u => conR u ⟨rb, rn⟩) = hit at *
      generalize conR us[k] ⟨rb, rn⟩ = ca at *
      generalize conR ⟨rb, rn⟩ us[k] = cb at *
      clear hh hci hmi hri
      cases hit <;> cases cb
      · go_upto_region 9 with fail
        refine wp_region_growS (S := fun W => Below wr.heap.size wr W ∧ RB W w1.heap.size ⟨rb, rn⟩ ∧ GRow GR.cells 2 W W.heap.size (some ⟨b3, o3, none⟩) us) [(0, true), (1, true), (2, true), (3, true), (4, true), (5, true), (6, true), (7, false), (8, true), (9, true)] (by kernel_rfl) (by kernel_rfl) (by kernel_rfl) (by kernel_rfl) (by intro c a d v w h; cases d <;> exact h) hS ?_
        iterate 7
          (first
            | (refine wpGrowS_float (v := ?_) (by simp only [List.getElem?_toArray, List.getElem?_cons_succ, List.getElem?_cons_zero]; rfl) (by rfl) ?_ ?_
               rotate_left
               · (intro W hW; obtain ⟨f1a, f1b, _, _⟩ := RB.facts (hW.2.1); obtain ⟨q0, q1⟩ := (hW.2.2).rngAt hk2; go_simp; try with_reducible rfl)
               simp only [Act.put, List.setIfInBounds_toArray, List.set_cons_zero, List.set_cons_succ])
            | (refine wpGrowS_skip (by simp only [List.getElem?_toArray, List.getElem?_cons_succ, List.getElem?_cons_zero]; rfl) (by rfl) ?_
               simp only [Act.put, List.setIfInBounds_toArray, List.set_cons_zero, List.set_cons_succ]))
        refine wpGrowS_call (by simp only [List.getElem?_toArray, List.getElem?_cons_succ, List.getElem?_cons_zero]; rfl) (by rfl) fun K hK => ?_
        go_simp
        go_fit (HCA _)
        rintro e wn ⟨rfl, hbn⟩
        have hSp := hS
        have hS : Below wr.heap.size wr wn ∧ RB wn w1.heap.size ⟨rb, rn⟩ ∧ GRow GR.cells 2 wn wn.heap.size (some ⟨b3, o3, none⟩) us := ⟨beln (hS.1) hbn, RB.next (hS.2.1) hbn, GRow.next (hS.2.2) hbn⟩
        go_simp
        refine hK _ _ hS ?_
        clear hK K
        try simp only [Act.put, List.setIfInBounds_toArray, List.set_cons_zero, List.set_cons_succ]
        iterate 2
          (first
            | (refine wpGrowS_float (v := ?_) (by simp only [List.getElem?_toArray, List.getElem?_cons_succ, List.getElem?_cons_zero]; rfl) (by rfl) ?_ ?_
               rotate_left
               · (intro W hW; obtain ⟨f1a, f1b, _, _⟩ := RB.facts (hW.2.1); obtain ⟨q0, q1⟩ := (hW.2.2).rngAt hk2; go_simp; try with_reducible rfl)
               simp only [Act.put, List.setIfInBounds_toArray, List.set_cons_zero, List.set_cons_succ])
            | (refine wpGrowS_skip (by simp only [List.getElem?_toArray, List.getElem?_cons_succ, List.getElem?_cons_zero]; rfl) (by rfl) ?_
               simp only [Act.put, List.setIfInBounds_toArray, List.set_cons_zero, List.set_cons_succ]))
        refine wpGrowS_nil ?_
        have HS9 := Lib.hid hS
        clear hS hbn
        have HO9 := Lib.hid (OwnG.next HO.out HS9.out.1)
        have HE9 : Hid (Below w4.heap.size w4 wn) := Lib.hid (beln HBK.out HS9.out.1)
        generalize wn = wE at *
        go_upto_region 10 with fail
        have hS : Below wE.heap.size wE wE.drew ∧ RB wE.drew w1.heap.size ⟨rb, rn⟩ ∧ GRow GR.cells 2 wE.drew wE.drew.heap.size (some ⟨b3, o3, none⟩) us := ⟨(Below.refl _ wE).drew, RB.next HS9.out.2.1 (Below.refl _ wE).drew, GRow.next HS9.out.2.2 (Below.refl _ wE).drew⟩
        refine wp_region_growS (S := fun W => Below wE.heap.size wE W ∧ RB W w1.heap.size ⟨rb, rn⟩ ∧ GRow GR.cells 2 W W.heap.size (some ⟨b3, o3, none⟩) us) [(0, true), (1, true), (2, true), (3, true), (4, true), (5, false)] (by kernel_rfl) (by kernel_rfl) (by kernel_rfl) (by kernel_rfl) (by intro c a d v w h; cases d <;> exact h) hS ?_
        iterate 5
          (first
            | (refine wpGrowS_float (v := ?_) (by simp only [List.getElem?_toArray, List.getElem?_cons_succ, List.getElem?_cons_zero]; rfl) (by rfl) ?_ ?_
               rotate_left
               · (intro W hW; obtain ⟨f1a, f1b, _, _⟩ := RB.facts (hW.2.1); obtain ⟨q0, q1⟩ := (hW.2.2).rngAt hk2; go_simp; try with_reducible rfl)
               simp only [Act.put, List.setIfInBounds_toArray, List.set_cons_zero, List.set_cons_succ])
            | (refine wpGrowS_skip (by simp only [List.getElem?_toArray, List.getElem?_cons_succ, List.getElem?_cons_zero]; rfl) (by rfl) ?_
               simp only [Act.put, List.setIfInBounds_toArray, List.set_cons_zero, List.set_cons_succ]))
        refine wpGrowS_call (by simp only [List.getElem?_toArray, List.getElem?_cons_succ, List.getElem?_cons_zero]; rfl) (by rfl) fun K hK => ?_
        go_simp
        go_fit (HCB _)
        rintro e wn ⟨rfl, hbn⟩
        have hSp := hS
        have hS : Below wE.heap.size wE wn ∧ RB wn w1.heap.size ⟨rb, rn⟩ ∧ GRow GR.cells 2 wn wn.heap.size (some ⟨b3, o3, none⟩) us := ⟨beln (hS.1) hbn, RB.next (hS.2.1) hbn, GRow.next (hS.2.2) hbn⟩
        go_simp
        refine hK _ _ hS ?_
        clear hK K
        try simp only [Act.put, List.setIfInBounds_toArray, List.set_cons_zero, List.set_cons_succ]
        refine wpGrowS_nil ?_
        have HO10 := Lib.hid (OwnG.next HO9.out hS.1)
        have HE10 := Lib.hid (beln HE9.out hS.1)
        obtain ⟨q0, q1⟩ := (hS.2.2).rngAt hk2
        have hblt : b3 < wn.heap.size := by have := World.block_lt_of_cell? wn _ q0; simpa using this
        clear hS hbn
        have HN : Hid (OwnR wn w4.heap.size (.slice Ai ((us.take k).filter (conR ⟨rb, rn⟩)).length ci) ((us.take (k + 1)).filter (conR ⟨rb, rn⟩))) := Lib.hid (by rw [HFT.out, if_neg (by simp), List.append_nil]; exact HO10.out)
        clear HCA HCB q0 q1
        generalize ((us.take k).filter (conR ⟨rb, rn⟩)).length = nl at *
        go_wp2
        go_roundw
        case rel => exact ⟨k + 1, by go_num, by omega, by rw [HAS.out]; simp, HN, HE10⟩
        case measure => simp [intOf]; omega
      · go_upto_region 9 with fail
        refine wp_region_growS (S := fun W => Below wr.heap.size wr W ∧ RB W w1.heap.size ⟨rb, rn⟩ ∧ GRow GR.cells 2 W W.heap.size (some ⟨b3, o3, none⟩) us) [(0, true), (1, true), (2, true), (3, true), (4, true), (5, true), (6, true), (7, false), (8, true), (9, true)] (by kernel_rfl) (by kernel_rfl) (by kernel_rfl) (by kernel_rfl) (by intro c a d v w h; cases d <;> exact h) hS ?_
        iterate 7
          (first
            | (refine wpGrowS_float (v := ?_) (by simp only [List.getElem?_toArray, List.getElem?_cons_succ, List.getElem?_cons_zero]; rfl) (by rfl) ?_ ?_
               rotate_left
               · (intro W hW; obtain ⟨f1a, f1b, _, _⟩ := RB.facts (hW.2.1); obtain ⟨q0, q1⟩ := (hW.2.2).rngAt hk2; go_simp; try with_reducible rfl)
               simp only [Act.put, List.setIfInBounds_toArray, List.set_cons_zero, List.set_cons_succ])
            | (refine wpGrowS_skip (by simp only [List.getElem?_toArray, List.getElem?_cons_succ, List.getElem?_cons_zero]; rfl) (by rfl) ?_
               simp only [Act.put, List.setIfInBounds_toArray, List.set_cons_zero, List.set_cons_succ]))
        refine wpGrowS_call (by simp only [List.getElem?_toArray, List.getElem?_cons_succ, List.getElem?_cons_zero]; rfl) (by rfl) fun K hK => ?_
        go_simp
        go_fit (HCA _)
        rintro e wn ⟨rfl, hbn⟩
        have hSp := hS
        have hS : Below wr.heap.size wr wn ∧ RB wn w1.heap.size ⟨rb, rn⟩ ∧ GRow GR.cells 2 wn wn.heap.size (some ⟨b3, o3, none⟩) us := ⟨beln (hS.1) hbn, RB.next (hS.2.1) hbn, GRow.next (hS.2.2) hbn⟩
        go_simp
        refine hK _ _ hS ?_
        clear hK K
        try simp only [Act.put, List.setIfInBounds_toArray, List.set_cons_zero, List.set_cons_succ]
        iterate 2
          (first
            | (refine wpGrowS_float (v := ?_) (by simp only [List.getElem?_toArray, List.getElem?_cons_succ, List.getElem?_cons_zero]; rfl) (by rfl) ?_ ?_
               rotate_left
               · (intro W hW; obtain ⟨f1a, f1b, _, _⟩ := RB.facts (hW.2.1); obtain ⟨q0, q1⟩ := (hW.2.2).rngAt hk2; go_simp; try with_reducible rfl)
               simp only [Act.put, List.setIfInBounds_toArray, List.set_cons_zero, List.set_cons_succ])
            | (refine wpGrowS_skip (by simp only [List.getElem?_toArray, List.getElem?_cons_succ, List.getElem?_cons_zero]; rfl) (by rfl) ?_
               simp only [Act.put, List.setIfInBounds_toArray, List.set_cons_zero, List.set_cons_succ]))
        refine wpGrowS_nil ?_
        have HS9 := Lib.hid hS
        clear hS hbn
        have HO9 := Lib.hid (OwnG.next HO.out HS9.out.1)
        have HE9 : Hid (Below w4.heap.size w4 wn) := Lib.hid (beln HBK.out HS9.out.1)
        generalize wn = wE at *
        go_upto_region 10 with fail
        have hS : Below wE.heap.size wE wE.drew ∧ RB wE.drew w1.heap.size ⟨rb, rn⟩ ∧ GRow GR.cells 2 wE.drew wE.drew.heap.size (some ⟨b3, o3, none⟩) us := ⟨(Below.refl _ wE).drew, RB.next HS9.out.2.1 (Below.refl _ wE).drew, GRow.next HS9.out.2.2 (Below.refl _ wE).drew⟩
        refine wp_region_growS (S := fun W => Below wE.heap.size wE W ∧ RB W w1.heap.size ⟨rb, rn⟩ ∧ GRow GR.cells 2 W W.heap.size (some ⟨b3, o3, none⟩) us) [(0, true), (1, true), (2, true), (3, true), (4, true), (5, false)] (by kernel_rfl) (by kernel_rfl) (by kernel_rfl) (by kernel_rfl) (by intro c a d v w h; cases d <;> exact h) hS ?_
        iterate 5
          (first
            | (refine wpGrowS_float (v := ?_) (by simp only [List.getElem?_toArray, List.getElem?_cons_succ, List.getElem?_cons_zero]; rfl) (by rfl) ?_ ?_
               rotate_left
               · (intro W hW; obtain ⟨f1a, f1b, _, _⟩ := RB.facts (hW.2.1); obtain ⟨q0, q1⟩ := (hW.2.2).rngAt hk2; go_simp; try with_reducible rfl)
               simp only [Act.put, List.setIfInBounds_toArray, List.set_cons_zero, List.set_cons_succ])
            | (refine wpGrowS_skip (by simp only [List.getElem?_toArray, List.getElem?_cons_succ, List.getElem?_cons_zero]; rfl) (by rfl) ?_
               simp only [Act.put, List.setIfInBounds_toArray, List.set_cons_zero, List.set_cons_succ]))
        refine wpGrowS_call (by simp only [List.getElem?_toArray, List.getElem?_cons_succ, List.getElem?_cons_zero]; rfl) (by rfl) fun K hK => ?_
        go_simp
        go_fit (HCB _)
        rintro e wn ⟨rfl, hbn⟩
        have hSp := hS
        have hS : Below wE.heap.size wE wn ∧ RB wn w1.heap.size ⟨rb, rn⟩ ∧ GRow GR.cells 2 wn wn.heap.size (some ⟨b3, o3, none⟩) us := ⟨beln (hS.1) hbn, RB.next (hS.2.1) hbn, GRow.next (hS.2.2) hbn⟩
        go_simp
        refine hK _ _ hS ?_
        clear hK K
        try simp only [Act.put, List.setIfInBounds_toArray, List.set_cons_zero, List.set_cons_succ]
        refine wpGrowS_nil ?_
        have HO10 := Lib.hid (OwnG.next HO9.out hS.1)
        have HE10 := Lib.hid (beln HE9.out hS.1)
        obtain ⟨q0, q1⟩ := (hS.2.2).rngAt hk2
        have hblt : b3 < wn.heap.size := by have := World.block_lt_of_cell? wn _ q0; simpa using this
        clear hS hbn
        generalize hnl : ((us.take k).filter (conR ⟨rb, rn⟩)).length = nl at *
        obtain ⟨v9, w9, hrun, hown9, hb9⟩ := OwnR.snoc HO10.out HE10.out ⟨us[k].base, us[k].bits⟩ (by rw [hnl]; omega)
        have HRUN := Lib.hid hrun
        have HN : Hid (OwnR w9 w4.heap.size v9 ((us.take (k + 1)).filter (conR ⟨rb, rn⟩))) := Lib.hid (by rw [HFT.out, if_pos rfl]; exact hown9)
        have HB9 := Lib.hid hb9
        clear hrun hown9 hb9 HCA HCB
        generalize us[k] = u at *
        go_wp2_with (at_builtin; refine wpList_gapp HRUN.out rfl rfl rfl rfl rfl ?_)
        go_roundw
        case rel => exact ⟨k + 1, by go_num, by omega, by rw [HAS.out]; simp, HN, HB9⟩
        case measure => simp [intOf]; omega
      · go_upto_region 9 with fail
        refine wp_region_growS (S := fun W => Below wr.heap.size wr W ∧ RB W w1.heap.size ⟨rb, rn⟩ ∧ GRow GR.cells 2 W W.heap.size (some ⟨b3, o3, none⟩) us) [(0, true), (1, true), (2, true), (3, true), (4, true), (5, true), (6, true), (7, false), (8, true), (9, true)] (by kernel_rfl) (by kernel_rfl) (by kernel_rfl) (by kernel_rfl) (by intro c a d v w h; cases d <;> exact h) hS ?_
        iterate 7
          (first
            | (refine wpGrowS_float (v := ?_) (by simp only [List.getElem?_toArray, List.getElem?_cons_succ, List.getElem?_cons_zero]; rfl) (by rfl) ?_ ?_
               rotate_left
               · (intro W hW; obtain ⟨f1a, f1b, _, _⟩ := RB.facts (hW.2.1); obtain ⟨q0, q1⟩ := (hW.2.2).rngAt hk2; go_simp; try with_reducible rfl)
               simp only [Act.put, List.setIfInBounds_toArray, List.set_cons_zero, List.set_cons_succ])
            | (refine wpGrowS_skip (by simp only [List.getElem?_toArray, List.getElem?_cons_succ, List.getElem?_cons_zero]; rfl) (by rfl) ?_
               simp only [Act.put, List.setIfInBounds_toArray, List.set_cons_zero, List.set_cons_succ]))
        refine wpGrowS_pass hS (by simp only [List.getElem?_toArray, List.getElem?_cons_succ, List.getElem?_cons_zero]; rfl) (by rfl) ?_
        try simp only [Act.put, List.setIfInBounds_toArray, List.set_cons_zero, List.set_cons_succ]
        iterate 2
          (first
            | (refine wpGrowS_float (v := ?_) (by simp only [List.getElem?_toArray, List.getElem?_cons_succ, List.getElem?_cons_zero]; rfl) (by rfl) ?_ ?_
               rotate_left
               · (intro W hW; obtain ⟨f1a, f1b, _, _⟩ := RB.facts (hW.2.1); obtain ⟨q0, q1⟩ := (hW.2.2).rngAt hk2; go_simp; try with_reducible rfl)
               simp only [Act.put, List.setIfInBounds_toArray, List.set_cons_zero, List.set_cons_succ])
            | (refine wpGrowS_skip (by simp only [List.getElem?_toArray, List.getElem?_cons_succ, List.getElem?_cons_zero]; rfl) (by rfl) ?_
               simp only [Act.put, List.setIfInBounds_toArray, List.set_cons_zero, List.set_cons_succ]))
        refine wpGrowS_nil ?_
        have HS9 := Lib.hid hS
        clear hS
        have HO9 := Lib.hid (OwnG.next HO.out HS9.out.1)
        have HE9 : Hid (Below w4.heap.size w4 wr.drew) := Lib.hid (beln HBK.out HS9.out.1)
        generalize wr.drew = wE at *
        go_upto_region 10 with fail
        have hS : Below wE.heap.size wE wE.drew ∧ RB wE.drew w1.heap.size ⟨rb, rn⟩ ∧ GRow GR.cells 2 wE.drew wE.drew.heap.size (some ⟨b3, o3, none⟩) us := ⟨(Below.refl _ wE).drew, RB.next HS9.out.2.1 (Below.refl _ wE).drew, GRow.next HS9.out.2.2 (Below.refl _ wE).drew⟩
        refine wp_region_growS (S := fun W => Below wE.heap.size wE W ∧ RB W w1.heap.size ⟨rb, rn⟩ ∧ GRow GR.cells 2 W W.heap.size (some ⟨b3, o3, none⟩) us) [(0, true), (1, true), (2, true), (3, true), (4, true), (5, false)] (by kernel_rfl) (by kernel_rfl) (by kernel_rfl) (by kernel_rfl) (by intro c a d v w h; cases d <;> exact h) hS ?_
        iterate 5
          (first
            | (refine wpGrowS_float (v := ?_) (by simp only [List.getElem?_toArray, List.getElem?_cons_succ, List.getElem?_cons_zero]; rfl) (by rfl) ?_ ?_
               rotate_left
               · (intro W hW; obtain ⟨f1a, f1b, _, _⟩ := RB.facts (hW.2.1); obtain ⟨q0, q1⟩ := (hW.2.2).rngAt hk2; go_simp; try with_reducible rfl)
               simp only [Act.put, List.setIfInBounds_toArray, List.set_cons_zero, List.set_cons_succ])
            | (refine wpGrowS_skip (by simp only [List.getElem?_toArray, List.getElem?_cons_succ, List.getElem?_cons_zero]; rfl) (by rfl) ?_
               simp only [Act.put, List.setIfInBounds_toArray, List.set_cons_zero, List.set_cons_succ]))
        refine wpGrowS_call (by simp only [List.getElem?_toArray, List.getElem?_cons_succ, List.getElem?_cons_zero]; rfl) (by rfl) fun K hK => ?_
        go_simp
        go_fit (HCB _)
        rintro e wn ⟨rfl, hbn⟩
        have hSp := hS
        have hS : Below wE.heap.size wE wn ∧ RB wn w1.heap.size ⟨rb, rn⟩ ∧ GRow GR.cells 2 wn wn.heap.size (some ⟨b3, o3, none⟩) us := ⟨beln (hS.1) hbn, RB.next (hS.2.1) hbn, GRow.next (hS.2.2) hbn⟩
        go_simp
        refine hK _ _ hS ?_
        clear hK K
        try simp only [Act.put, List.setIfInBounds_toArray, List.set_cons_zero, List.set_cons_succ]
        refine wpGrowS_nil ?_
        have HO10 := Lib.hid (OwnG.next HO9.out hS.1)
        have HE10 := Lib.hid (beln HE9.out hS.1)
        obtain ⟨q0, q1⟩ := (hS.2.2).rngAt hk2
        have hblt : b3 < wn.heap.size := by have := World.block_lt_of_cell? wn _ q0; simpa using this
        clear hS hbn
        have HN : Hid (OwnR wn w4.heap.size (.slice Ai ((us.take k).filter (conR ⟨rb, rn⟩)).length ci) ((us.take (k + 1)).filter (conR ⟨rb, rn⟩))) := Lib.hid (by rw [HFT.out, if_neg (by simp), List.append_nil]; exact HO10.out)
        clear HCA HCB q0 q1
        generalize ((us.take k).filter (conR ⟨rb, rn⟩)).length = nl at *
        go_wp2
        go_roundw
        case rel => exact ⟨k + 1, by go_num, by omega, by rw [HAS.out]; simp, HN, HE10⟩
        case measure => simp [intOf]; omega
      · go_upto_region 9 with fail
        refine wp_region_growS (S := fun W => Below wr.heap.size wr W ∧ RB W w1.heap.size ⟨rb, rn⟩ ∧ GRow GR.cells 2 W W.heap.size (some ⟨b3, o3, none⟩) us) [(0, true), (1, true), (2, true), (3, true), (4, true), (5, true), (6, true), (7, false), (8, true), (9, true)] (by kernel_rfl) (by kernel_rfl) (by kernel_rfl) (by kernel_rfl) (by intro c a d v w h; cases d <;> exact h) hS ?_
        iterate 7
          (first
            | (refine wpGrowS_float (v := ?_) (by simp only [List.getElem?_toArray, List.getElem?_cons_succ, List.getElem?_cons_zero]; rfl) (by rfl) ?_ ?_
               rotate_left
               · (intro W hW; obtain ⟨f1a, f1b, _, _⟩ := RB.facts (hW.2.1); obtain ⟨q0, q1⟩ := (hW.2.2).rngAt hk2; go_simp; try with_reducible rfl)
               simp only [Act.put, List.setIfInBounds_toArray, List.set_cons_zero, List.set_cons_succ])
            | (refine wpGrowS_skip (by simp only [List.getElem?_toArray, List.getElem?_cons_succ, List.getElem?_cons_zero]; rfl) (by rfl) ?_
               simp only [Act.put, List.setIfInBounds_toArray, List.set_cons_zero, List.set_cons_succ]))
        refine wpGrowS_pass hS (by simp only [List.getElem?_toArray, List.getElem?_cons_succ, List.getElem?_cons_zero]; rfl) (by rfl) ?_
        try simp only [Act.put, List.setIfInBounds_toArray, List.set_cons_zero, List.set_cons_succ]
        iterate 2
          (first
            | (refine wpGrowS_float (v := ?_) (by simp only [List.getElem?_toArray, List.getElem?_cons_succ, List.getElem?_cons_zero]; rfl) (by rfl) ?_ ?_
               rotate_left
               · (intro W hW; obtain ⟨f1a, f1b, _, _⟩ := RB.facts (hW.2.1); obtain ⟨q0, q1⟩ := (hW.2.2).rngAt hk2; go_simp; try with_reducible rfl)
               simp only [Act.put, List.setIfInBounds_toArray, List.set_cons_zero, List.set_cons_succ])
            | (refine wpGrowS_skip (by simp only [List.getElem?_toArray, List.getElem?_cons_succ, List.getElem?_cons_zero]; rfl) (by rfl) ?_
               simp only [Act.put, List.setIfInBounds_toArray, List.set_cons_zero, List.set_cons_succ]))
        refine wpGrowS_nil ?_
        have HS9 := Lib.hid hS
        clear hS
        have HO9 := Lib.hid (OwnG.next HO.out HS9.out.1)
        have HE9 : Hid (Below w4.heap.size w4 wr.drew) := Lib.hid (beln HBK.out HS9.out.1)
        generalize wr.drew = wE at *
        go_upto_region 10 with fail
        have hS : Below wE.heap.size wE wE.drew ∧ RB wE.drew w1.heap.size ⟨rb, rn⟩ ∧ GRow GR.cells 2 wE.drew wE.drew.heap.size (some ⟨b3, o3, none⟩) us := ⟨(Below.refl _ wE).drew, RB.next HS9.out.2.1 (Below.refl _ wE).drew, GRow.next HS9.out.2.2 (Below.refl _ wE).drew⟩
        refine wp_region_growS (S := fun W => Below wE.heap.size wE W ∧ RB W w1.heap.size ⟨rb, rn⟩ ∧ GRow GR.cells 2 W W.heap.size (some ⟨b3, o3, none⟩) us) [(0, true), (1, true), (2, true), (3, true), (4, true), (5, false)] (by kernel_rfl) (by kernel_rfl) (by kernel_rfl) (by kernel_rfl) (by intro c a d v w h; cases d <;> exact h) hS ?_
        iterate 5
          (first
            | (refine wpGrowS_float (v := ?_) (by simp only [List.getElem?_toArray, List.getElem?_cons_succ, List.getElem?_cons_zero]; rfl) (by rfl) ?_ ?_
               rotate_left
               · (intro W hW; obtain ⟨f1a, f1b, _, _⟩ := RB.facts (hW.2.1); obtain ⟨q0, q1⟩ := (hW.2.2).rngAt hk2; go_simp; try with_reducible rfl)
               simp only [Act.put, List.setIfInBounds_toArray, List.set_cons_zero, List.set_cons_succ])
            | (refine wpGrowS_skip (by simp only [List.getElem?_toArray, List.getElem?_cons_succ, List.getElem?_cons_zero]; rfl) (by rfl) ?_
               simp only [Act.put, List.setIfInBounds_toArray, List.set_cons_zero, List.set_cons_succ]))
        refine wpGrowS_call (by simp only [List.getElem?_toArray, List.getElem?_cons_succ, List.getElem?_cons_zero]; rfl) (by rfl) fun K hK => ?_
        go_simp
        go_fit (HCB _)
        rintro e wn ⟨rfl, hbn⟩
        have hSp := hS
        have hS : Below wE.heap.size wE wn ∧ RB wn w1.heap.size ⟨rb, rn⟩ ∧ GRow GR.cells 2 wn wn.heap.size (some ⟨b3, o3, none⟩) us := ⟨beln (hS.1) hbn, RB.next (hS.2.1) hbn, GRow.next (hS.2.2) hbn⟩
        go_simp
        refine hK _ _ hS ?_
        clear hK K
        try simp only [Act.put, List.setIfInBounds_toArray, List.set_cons_zero, List.set_cons_succ]
        refine wpGrowS_nil ?_
        have HO10 := Lib.hid (OwnG.next HO9.out hS.1)
        have HE10 := Lib.hid (beln HE9.out hS.1)
        obtain ⟨q0, q1⟩ := (hS.2.2).rngAt hk2
        have hblt : b3 < wn.heap.size := by have := World.block_lt_of_cell? wn _ q0; simpa using this
        clear hS hbn
        generalize hnl : ((us.take k).filter (conR ⟨rb, rn⟩)).length = nl at *
        obtain ⟨v9, w9, hrun, hown9, hb9⟩ := OwnR.snoc HO10.out HE10.out ⟨us[k].base, us[k].bits⟩ (by rw [hnl]; omega)
        have HRUN := Lib.hid hrun
        have HN : Hid (OwnR w9 w4.heap.size v9 ((us.take (k + 1)).filter (conR ⟨rb, rn⟩))) := Lib.hid (by rw [HFT.out, if_pos rfl]; exact hown9)
        have HB9 := Lib.hid hb9
        clear hrun hown9 hb9 HCA HCB
        generalize us[k] = u at *
        go_wp2_with (at_builtin; refine wpList_gapp HRUN.out rfl rfl rfl rfl rfl ?_)
        go_roundw
        case rel => exact ⟨k + 1, by go_num, by omega, by rw [HAS.out]; simp, HN, HB9⟩
        case measure => simp [intOf]; omega
    · obtain rfl : k = us.length := by omega
      rw [List.take_of_length_le (Nat.le_refl _)] at *
      have HBW := Lib.hid (beln HB4.out HBK.out)
      have HXW := Lib.hid (RB.next HX4.out HBK.out)
      have HUW := Lib.hid (GRow.next HU4.out HBK.out)
      have HFW := Lib.hid (GRow.next HF4.out HBK.out)
      have HIW := Lib.hid hri
      have HPT := Lib.hid fun h => partition (r := ⟨rb, rn⟩) (us := us) HVR.out h
      rw [← HFL.out] at HPT
      have HWH := Lib.hid fun h => freeL_whole (r := ⟨rb, rn⟩) (us := us) HVR.out h
      rw [← HFL.out] at HWH
      have hil : (us.filter (conR ⟨rb, rn⟩)).length ≤ 40 := Nat.le_trans (List.length_filter_le _ _) hul
      clear hk hk2 hci hmi hri
      generalize us.filter (conR ⟨rb, rn⟩) = ins at *
      generalize (us.any fun u => conR u ⟨rb, rn⟩) = whole at *
      generalize wr = wB at *
      cases whole
      · clear HWH
        have HCI := Lib.hid fun A c W h => pCov_any ins A c W h (by omega)
        have HPT2 := Lib.hid (HPT.out rfl)
        generalize covL ins = cin at *
        go_wp2
        go_loopw [13, 14] (fun v13 v14 wr => ∃ i : Nat, v14 = .int .i64 i ∧ i ≤ fl.length ∧ v13 = .int .i64 (sumSz (fl.take i)) ∧ Hid (Below wB.heap.size wB wr)) (fun _ v14 _ => fl.length - (intOf v14).toNat)
        case atStart => exact ⟨0, rfl, Nat.zero_le _, by simp [sumSz], Lib.hid (Below.refl _ _)⟩
        case round =>
          obtain ⟨i, rfl, hi, rfl, HBI⟩ := hrel
          rcases Nat.lt_or_ge i fl.length with hi2 | hi2
          · obtain ⟨b2, o2, rfl, hb2, _, _⟩ := (HFW.out.next HBI.out).rng hi2
            have HG := Lib.hid (HFS.out.good fl[i] (List.getElem_mem hi2))
            have HSN := Lib.hid (sumSz_snoc hi2)
            have HASC := Lib.hid HFS.out.asc
            have hsb := sumSz_bound (l := fl.take i) (fun f hf => (HFS.out.good f (List.mem_of_mem_take hf)).1)
            have hsl : (fl.take i).length ≤ 1024 := by rw [List.length_take]; have := HSMA.out; omega
            have hs0 : 0 ≤ sumSz (fl.take i) := hsb.1
            have hs1 : sumSz (fl.take i) ≤ 1125899906842624 := by omega
            have v1 : 6 ≤ fl[i].bits := HG.out.1.lo
            have v2 : fl[i].bits ≤ 40 := HG.out.1.hi
            have HVS := Lib.hid (show fl[i].sz = pw fl[i].bits from rfl)
            have HCB := fun W => rCon_any ⟨rb, rn⟩ fl[i] W
            rw [HG.out.2.1] at HCB
            have HOV := Lib.hid fun (k : Nat) (hk : k < us.length) W => rOv_any fl[i] us[k] W
            have HOF := Lib.hid fun (k : Nat) (hk : k < us.length) => HG.out.2.2 us[k] (List.getElem_mem hk)
            have HUI := Lib.hid (GRow.next HUW.out HBI.out)
            have HFI := Lib.hid (GRow.next HFW.out HBI.out)
            have HXI := Lib.hid (RB.next HXW.out HBI.out)
            simp only [GR.val] at HCB
            clear hsb hsl
            generalize hsum : sumSz (fl.take i) = sm at *
            rcases Nat.eq_zero_or_pos i with hi0 | hi0
            · have hji : decide ((0 : Int) < (i : Int)) = false := decide_eq_false (by omega)
              have hjk : decide (0 < i) = false := decide_eq_false (by omega)
              clear hi0
              have hS : Below wr.heap.size wr wr.drew ∧ RB wr.drew w1.heap.size ⟨rb, rn⟩ ∧ GRow GR.cells 2 wr.drew wr.drew.heap.size (some ⟨b2, o2, none⟩) fl := ⟨(Below.refl _ wr).drew, RB.next HXI.out (Below.refl _ wr).drew, GRow.next HFI.out (Below.refl _ wr).drew⟩
              go_upto_region 18 with fail
              refine wp_region_growS (S := fun W => Below wr.heap.size wr W ∧ RB W w1.heap.size ⟨rb, rn⟩ ∧ GRow GR.cells 2 W W.heap.size (some ⟨b2, o2, none⟩) fl) [(0, true), (1, true), (2, true), (3, true), (4, true), (5, false), (6, true), (7, true), (8, true), (9, true), (10, true), (11, true), (12, true), (13, true), (14, true), (15, true), (16, true), (17, true), (18, true), (19, true), (20, true), (21, false), (22, true), (23, true), (24, true)] (by kernel_rfl) (by kernel_rfl) (by kernel_rfl) (by kernel_rfl) (by intro c a d v w h; cases d <;> exact h) hS ?_
              iterate 5
                (first
                  | (refine wpGrowS_float (v := ?_) (by simp only [List.getElem?_toArray, List.getElem?_cons_succ, List.getElem?_cons_zero]; rfl) (by rfl) ?_ ?_
                     rotate_left
                     · (intro W hW; obtain ⟨f1a, f1b, _, _⟩ := RB.facts (hW.2.1); obtain ⟨q0, q1⟩ := (hW.2.2).rngAt (k := i) hi2; go_simp; try with_reducible rfl)
                     simp only [Act.put, List.setIfInBounds_toArray, List.set_cons_zero, List.set_cons_succ])
                  | (refine wpGrowS_skip (by simp only [List.getElem?_toArray, List.getElem?_cons_succ, List.getElem?_cons_zero]; rfl) (by rfl) ?_
                     simp only [Act.put, List.setIfInBounds_toArray, List.set_cons_zero, List.set_cons_succ]))
              refine wpGrowS_call (by simp only [List.getElem?_toArray, List.getElem?_cons_succ, List.getElem?_cons_zero]; rfl) (by rfl) fun K hK => ?_
              go_simp
              go_fit (HCB _)
              rintro e wn ⟨rfl, hbn⟩
              have hSp := hS
              have hS : Below wr.heap.size wr wn ∧ RB wn w1.heap.size ⟨rb, rn⟩ ∧ GRow GR.cells 2 wn wn.heap.size (some ⟨b2, o2, none⟩) fl := ⟨beln (hS.1) hbn, RB.next (hS.2.1) hbn, GRow.next (hS.2.2) hbn⟩
              go_simp
              refine hK _ _ hS ?_
              clear hK K
              try simp only [Act.put, List.setIfInBounds_toArray, List.set_cons_zero, List.set_cons_succ]
              iterate 15
                (first
                  | (refine wpGrowS_float (v := ?_) (by simp only [List.getElem?_toArray, List.getElem?_cons_succ, List.getElem?_cons_zero]; rfl) (by rfl) ?_ ?_
                     rotate_left
                     · (intro W hW; obtain ⟨f1a, f1b, _, _⟩ := RB.facts (hW.2.1); obtain ⟨q0, q1⟩ := (hW.2.2).rngAt (k := i) hi2; go_simp; try with_reducible rfl)
                     simp only [Act.put, List.setIfInBounds_toArray, List.set_cons_zero, List.set_cons_succ])
                  | (refine wpGrowS_skip (by simp only [List.getElem?_toArray, List.getElem?_cons_succ, List.getElem?_cons_zero]; rfl) (by rfl) ?_
                     simp only [Act.put, List.setIfInBounds_toArray, List.set_cons_zero, List.set_cons_succ]))
              refine wpGrowS_pass hS (by simp only [List.getElem?_toArray, List.getElem?_cons_succ, List.getElem?_cons_zero]; rfl) (by rfl) ?_
              try simp only [Act.put, List.setIfInBounds_toArray, List.set_cons_zero, List.set_cons_succ]
              iterate 3
                (first
                  | (refine wpGrowS_float (v := ?_) (by simp only [List.getElem?_toArray, List.getElem?_cons_succ, List.getElem?_cons_zero]; rfl) (by rfl) ?_ ?_
                     rotate_left
                     · (intro W hW; obtain ⟨f1a, f1b, _, _⟩ := RB.facts (hW.2.1); obtain ⟨q0, q1⟩ := (hW.2.2).rngAt (k := i) hi2; go_simp; try with_reducible rfl)
                     simp only [Act.put, List.setIfInBounds_toArray, List.set_cons_zero, List.set_cons_succ])
                  | (refine wpGrowS_skip (by simp only [List.getElem?_toArray, List.getElem?_cons_succ, List.getElem?_cons_zero]; rfl) (by rfl) ?_
                     simp only [Act.put, List.setIfInBounds_toArray, List.set_cons_zero, List.set_cons_succ]))
              refine wpGrowS_nil ?_
              have HS18 := Lib.hid hS.1
              clear hS hbn HCB hji hjk
              have HUJ := Lib.hid (GRow.next HUI.out HS18.out)
              have HFJ := Lib.hid (GRow.next HFI.out HS18.out)
              have HBJ := Lib.hid (beln HBI.out HS18.out)
              generalize wn = wE at *
              go_wp2_with fail
              go_loopw [15] (fun v15 wr => ∃ k : Nat, v15 = .int .i64 k ∧ k ≤ us.length ∧ Hid (Below wE.heap.size wE wr)) (fun v15 _ => us.length - (intOf v15).toNat)
              case atStart => exact ⟨0, rfl, Nat.zero_le _, Lib.hid (Below.refl _ _)⟩
              case round =>
                obtain ⟨k, rfl, hk, HBK2⟩ := hrel
                rcases Nat.lt_or_ge k us.length with hk2 | hk2
                · obtain ⟨b3, o3, rfl, hb3, _, _⟩ := (HUJ.out.next HBK2.out).rng hk2
                  have HOK := HOV.out k hk2
                  rw [HOF.out k hk2] at HOK
                  simp only [GR.val] at HOK
                  have hS : Below wr.heap.size wr wr.drew ∧ GRow GR.cells 2 wr.drew wr.drew.heap.size (some ⟨b2, o2, none⟩) fl ∧ GRow GR.cells 2 wr.drew wr.drew.heap.size (some ⟨b3, o3, none⟩) us := ⟨(Below.refl _ wr).drew, GRow.next (GRow.next HFJ.out HBK2.out) (Below.refl _ wr).drew, GRow.next (GRow.next HUJ.out HBK2.out) (Below.refl _ wr).drew⟩
                  go_upto_region 23 with fail
                  refine wp_region_growS (S := fun W => Below wr.heap.size wr W ∧ GRow GR.cells 2 W W.heap.size (some ⟨b2, o2, none⟩) fl ∧ GRow GR.cells 2 W W.heap.size (some ⟨b3, o3, none⟩) us) [(0, true), (1, true), (2, true), (3, true), (4, true), (5, true), (6, true), (7, true), (8, false)] (by kernel_rfl) (by kernel_rfl) (by kernel_rfl) (by kernel_rfl) (by intro c a d v w h; cases d <;> exact h) hS ?_
                  iterate 8
                    (first
                      | (refine wpGrowS_float (v := ?_) (by simp only [List.getElem?_toArray, List.getElem?_cons_succ, List.getElem?_cons_zero]; rfl) (by rfl) ?_ ?_
                         rotate_left
                         · (intro W hW; obtain ⟨q0, q1⟩ := (hW.2.1).rngAt (k := i) hi2; obtain ⟨q2, q3⟩ := (hW.2.2).rngAt hk2; go_simp; try with_reducible rfl)
                         simp only [Act.put, List.setIfInBounds_toArray, List.set_cons_zero, List.set_cons_succ])
                      | (refine wpGrowS_skip (by simp only [List.getElem?_toArray, List.getElem?_cons_succ, List.getElem?_cons_zero]; rfl) (by rfl) ?_
                         simp only [Act.put, List.setIfInBounds_toArray, List.set_cons_zero, List.set_cons_succ]))
                  refine wpGrowS_call (by simp only [List.getElem?_toArray, List.getElem?_cons_succ, List.getElem?_cons_zero]; rfl) (by rfl) fun K hK => ?_
                  go_simp
                  go_fit (HOK _)
                  rintro e wn ⟨rfl, hbn⟩
                  have hSp := hS
                  have hS : Below wr.heap.size wr wn ∧ GRow GR.cells 2 wn wn.heap.size (some ⟨b2, o2, none⟩) fl ∧ GRow GR.cells 2 wn wn.heap.size (some ⟨b3, o3, none⟩) us := ⟨beln (hS.1) hbn, GRow.next (hS.2.1) hbn, GRow.next (hS.2.2) hbn⟩
                  go_simp
                  refine hK _ _ hS ?_
                  clear hK K
                  try simp only [Act.put, List.setIfInBounds_toArray, List.set_cons_zero, List.set_cons_succ]
                  refine wpGrowS_nil ?_
                  have HBE := Lib.hid (beln HBK2.out hS.1)
                  clear hS hbn HOK
                  go_wp2
                  go_roundw
                  case rel => exact ⟨k + 1, by go_num, by omega, HBE⟩
                  case measure => simp [intOf]; omega
                · obtain rfl : k = us.length := by omega
                  obtain ⟨q0, q1⟩ := (GRow.next HFJ.out HBK2.out).rngAt (k := i) hi2
                  have HBE := Lib.hid (beln HBJ.out HBK2.out)
                  have hsh : IntKind.i64.wrap (2 ^ fl[i].bits.toNat) = pw fl[i].bits := shl_one (by omega) (by omega)
                  have hsh2 : wrap64 (2 ^ fl[i].bits.toNat) = pw fl[i].bits := shl_one64 (by omega) (by omega)
                  have hcu : IntKind.u64.wrap fl[i].bits = fl[i].bits := by rw [IntKind.wrap_u64]; omega
                  have hzp := pw_pos fl[i].bits
                  have hzt := pw_top (n := fl[i].bits) (by omega) (by omega)
                  have hnx : sumSz (fl.take (i + 1)) = sm + pw fl[i].bits := by rw [HSN.out, HVS.out]
                  have HNX := Lib.hid hnx
                  clear hnx
                  generalize pw fl[i].bits = z at *
                  have hwz := wsum hs0 hs1 hzp hzt
                  generalize fl[i].bits = fn at *
                  go_wp2
                  go_roundw
                  case rel => exact ⟨i + 1, by go_num, by omega, by first | rw [HNX.out, hwz] | rw [HNX.out, hsh2, hwz], HBE⟩
                  case measure => simp [intOf]; omega
            · obtain ⟨j, hj⟩ : ∃ j, i = j + 1 := ⟨i - 1, by omega⟩
              have hjn : (j : Int) < fl.length := by omega
              have hjn2 : j < fl.length := by omega
              have HEN := fun W => rEnd_any fl[j] W
              have HEV := Lib.hid (HFS.out.good fl[j] (List.getElem_mem hjn2)).1.endR
              have hasc : fl[j].base + fl[j].sz ≤ fl[i].base := by subst hj; exact asc_prev HASC.out hi2
              have hdd : decide (fl[i].base < endR fl[j]) = false := by rw [HEV.out, decide_eq_false_iff_not]; omega
              have hwi : IntKind.i64.wrap ((i : Int) - 1) = (j : Int) := by rw [IntKind.wrap_i64]; omega
              have hji : decide ((0 : Int) < (i : Int)) = true := decide_eq_true (by omega)
              have hjk : decide (0 < i) = true := decide_eq_true (by omega)
              simp only [GR.val] at HEN
              generalize endR fl[j] = en at *
              clear hasc hj hi0
              have hS : Below wr.heap.size wr wr.drew ∧ RB wr.drew w1.heap.size ⟨rb, rn⟩ ∧ GRow GR.cells 2 wr.drew wr.drew.heap.size (some ⟨b2, o2, none⟩) fl := ⟨(Below.refl _ wr).drew, RB.next HXI.out (Below.refl _ wr).drew, GRow.next HFI.out (Below.refl _ wr).drew⟩
              go_upto_region 18 with fail
              refine wp_region_growS (S := fun W => Below wr.heap.size wr W ∧ RB W w1.heap.size ⟨rb, rn⟩ ∧ GRow GR.cells 2 W W.heap.size (some ⟨b2, o2, none⟩) fl) [(0, true), (1, true), (2, true), (3, true), (4, true), (5, false), (6, true), (7, true), (8, true), (9, true), (10, true), (11, true), (12, true), (13, true), (14, true), (15, true), (16, true), (17, true), (18, true), (19, true), (20, true), (21, false), (22, true), (23, true), (24, true)] (by kernel_rfl) (by kernel_rfl) (by kernel_rfl) (by kernel_rfl) (by intro c a d v w h; cases d <;> exact h) hS ?_
              iterate 5
                (first
                  | (refine wpGrowS_float (v := ?_) (by simp only [List.getElem?_toArray, List.getElem?_cons_succ, List.getElem?_cons_zero]; rfl) (by rfl) ?_ ?_
                     rotate_left
                     · (intro W hW; obtain ⟨f1a, f1b, _, _⟩ := RB.facts (hW.2.1); obtain ⟨q0, q1⟩ := (hW.2.2).rngAt (k := i) hi2; obtain ⟨q2, q3⟩ := (hW.2.2).rngAt (k := j) hjn2; go_simp; try with_reducible rfl)
                     simp only [Act.put, List.setIfInBounds_toArray, List.set_cons_zero, List.set_cons_succ])
                  | (refine wpGrowS_skip (by simp only [List.getElem?_toArray, List.getElem?_cons_succ, List.getElem?_cons_zero]; rfl) (by rfl) ?_
                     simp only [Act.put, List.setIfInBounds_toArray, List.set_cons_zero, List.set_cons_succ]))
              refine wpGrowS_call (by simp only [List.getElem?_toArray, List.getElem?_cons_succ, List.getElem?_cons_zero]; rfl) (by rfl) fun K hK => ?_
              go_simp
              go_fit (HCB _)
              rintro e wn ⟨rfl, hbn⟩
              have hSp := hS
              have hS : Below wr.heap.size wr wn ∧ RB wn w1.heap.size ⟨rb, rn⟩ ∧ GRow GR.cells 2 wn wn.heap.size (some ⟨b2, o2, none⟩) fl := ⟨beln (hS.1) hbn, RB.next (hS.2.1) hbn, GRow.next (hS.2.2) hbn⟩
              go_simp
              refine hK _ _ hS ?_
              clear hK K
              try simp only [Act.put, List.setIfInBounds_toArray, List.set_cons_zero, List.set_cons_succ]
              iterate 15
                (first
                  | (refine wpGrowS_float (v := ?_) (by simp only [List.getElem?_toArray, List.getElem?_cons_succ, List.getElem?_cons_zero]; rfl) (by rfl) ?_ ?_
                     rotate_left
                     · (intro W hW; obtain ⟨f1a, f1b, _, _⟩ := RB.facts (hW.2.1); obtain ⟨q0, q1⟩ := (hW.2.2).rngAt (k := i) hi2; obtain ⟨q2, q3⟩ := (hW.2.2).rngAt (k := j) hjn2; go_simp; try with_reducible rfl)
                     simp only [Act.put, List.setIfInBounds_toArray, List.set_cons_zero, List.set_cons_succ])
                  | (refine wpGrowS_skip (by simp only [List.getElem?_toArray, List.getElem?_cons_succ, List.getElem?_cons_zero]; rfl) (by rfl) ?_
                     simp only [Act.put, List.setIfInBounds_toArray, List.set_cons_zero, List.set_cons_succ]))
              refine wpGrowS_call (by simp only [List.getElem?_toArray, List.getElem?_cons_succ, List.getElem?_cons_zero]; rfl) (by rfl) fun K hK => ?_
              go_simp
              go_fit (HEN _)
              rintro e wn ⟨rfl, hbn⟩
              have hSp := hS
              have hS : Below wr.heap.size wr wn ∧ RB wn w1.heap.size ⟨rb, rn⟩ ∧ GRow GR.cells 2 wn wn.heap.size (some ⟨b2, o2, none⟩) fl := ⟨beln (hS.1) hbn, RB.next (hS.2.1) hbn, GRow.next (hS.2.2) hbn⟩
              go_simp
              refine hK _ _ hS ?_
              clear hK K
              try simp only [Act.put, List.setIfInBounds_toArray, List.set_cons_zero, List.set_cons_succ]
              iterate 3
                (first
                  | (refine wpGrowS_float (v := ?_) (by simp only [List.getElem?_toArray, List.getElem?_cons_succ, List.getElem?_cons_zero]; rfl) (by rfl) ?_ ?_
                     rotate_left
                     · (intro W hW; obtain ⟨f1a, f1b, _, _⟩ := RB.facts (hW.2.1); obtain ⟨q0, q1⟩ := (hW.2.2).rngAt (k := i) hi2; obtain ⟨q2, q3⟩ := (hW.2.2).rngAt (k := j) hjn2; go_simp; try with_reducible rfl)
                     simp only [Act.put, List.setIfInBounds_toArray, List.set_cons_zero, List.set_cons_succ])
                  | (refine wpGrowS_skip (by simp only [List.getElem?_toArray, List.getElem?_cons_succ, List.getElem?_cons_zero]; rfl) (by rfl) ?_
                     simp only [Act.put, List.setIfInBounds_toArray, List.set_cons_zero, List.set_cons_succ]))
              refine wpGrowS_nil ?_
              have HS18 := Lib.hid hS.1
              clear hS hbn HCB hji hjk HEN hdd hwi
              have HUJ := Lib.hid (GRow.next HUI.out HS18.out)
              have HFJ := Lib.hid (GRow.next HFI.out HS18.out)
              have HBJ := Lib.hid (beln HBI.out HS18.out)
              generalize wn = wE at *
              go_wp2_with fail
              go_loopw [15] (fun v15 wr => ∃ k : Nat, v15 = .int .i64 k ∧ k ≤ us.length ∧ Hid (Below wE.heap.size wE wr)) (fun v15 _ => us.length - (intOf v15).toNat)
              case atStart => exact ⟨0, rfl, Nat.zero_le _, Lib.hid (Below.refl _ _)⟩
              case round =>
                obtain ⟨k, rfl, hk, HBK2⟩ := hrel
                rcases Nat.lt_or_ge k us.length with hk2 | hk2
                · obtain ⟨b3, o3, rfl, hb3, _, _⟩ := (HUJ.out.next HBK2.out).rng hk2
                  have HOK := HOV.out k hk2
                  rw [HOF.out k hk2] at HOK
                  simp only [GR.val] at HOK
                  have hS : Below wr.heap.size wr wr.drew ∧ GRow GR.cells 2 wr.drew wr.drew.heap.size (some ⟨b2, o2, none⟩) fl ∧ GRow GR.cells 2 wr.drew wr.drew.heap.size (some ⟨b3, o3, none⟩) us := ⟨(Below.refl _ wr).drew, GRow.next (GRow.next HFJ.out HBK2.out) (Below.refl _ wr).drew, GRow.next (GRow.next HUJ.out HBK2.out) (Below.refl _ wr).drew⟩
                  go_upto_region 23 with fail
                  refine wp_region_growS (S := fun W => Below wr.heap.size wr W ∧ GRow GR.cells 2 W W.heap.size (some ⟨b2, o2, none⟩) fl ∧ GRow GR.cells 2 W W.heap.size (some ⟨b3, o3, none⟩) us) [(0, true), (1, true), (2, true), (3, true), (4, true), (5, true), (6, true), (7, true), (8, false)] (by kernel_rfl) (by kernel_rfl) (by kernel_rfl) (by kernel_rfl) (by intro c a d v w h; cases d <;> exact h) hS ?_
                  iterate 8
                    (first
                      | (refine wpGrowS_float (v := ?_) (by simp only [List.getElem?_toArray, List.getElem?_cons_succ, List.getElem?_cons_zero]; rfl) (by rfl) ?_ ?_
                         rotate_left
                         · (intro W hW; obtain ⟨q0, q1⟩ := (hW.2.1).rngAt (k := i) hi2; obtain ⟨q2, q3⟩ := (hW.2.2).rngAt hk2; go_simp; try with_reducible rfl)
                         simp only [Act.put, List.setIfInBounds_toArray, List.set_cons_zero, List.set_cons_succ])
                      | (refine wpGrowS_skip (by simp only [List.getElem?_toArray, List.getElem?_cons_succ, List.getElem?_cons_zero]; rfl) (by rfl) ?_
                         simp only [Act.put, List.setIfInBounds_toArray, List.set_cons_zero, List.set_cons_succ]))
                  refine wpGrowS_call (by simp only [List.getElem?_toArray, List.getElem?_cons_succ, List.getElem?_cons_zero]; rfl) (by rfl) fun K hK => ?_
                  go_simp
                  go_fit (HOK _)
                  rintro e wn ⟨rfl, hbn⟩
                  have hSp := hS
                  have hS : Below wr.heap.size wr wn ∧ GRow GR.cells 2 wn wn.heap.size (some ⟨b2, o2, none⟩) fl ∧ GRow GR.cells 2 wn wn.heap.size (some ⟨b3, o3, none⟩) us := ⟨beln (hS.1) hbn, GRow.next (hS.2.1) hbn, GRow.next (hS.2.2) hbn⟩
                  go_simp
                  refine hK _ _ hS ?_
                  clear hK K
                  try simp only [Act.put, List.setIfInBounds_toArray, List.set_cons_zero, List.set_cons_succ]
                  refine wpGrowS_nil ?_
                  have HBE := Lib.hid (beln HBK2.out hS.1)
                  clear hS hbn HOK
                  go_wp2
                  go_roundw
                  case rel => exact ⟨k + 1, by go_num, by omega, HBE⟩
                  case measure => simp [intOf]; omega
                · obtain rfl : k = us.length := by omega
                  obtain ⟨q0, q1⟩ := (GRow.next HFJ.out HBK2.out).rngAt (k := i) hi2
                  have HBE := Lib.hid (beln HBJ.out HBK2.out)
                  have hsh : IntKind.i64.wrap (2 ^ fl[i].bits.toNat) = pw fl[i].bits := shl_one (by omega) (by omega)
                  have hsh2 : wrap64 (2 ^ fl[i].bits.toNat) = pw fl[i].bits := shl_one64 (by omega) (by omega)
                  have hcu : IntKind.u64.wrap fl[i].bits = fl[i].bits := by rw [IntKind.wrap_u64]; omega
                  have hzp := pw_pos fl[i].bits
                  have hzt := pw_top (n := fl[i].bits) (by omega) (by omega)
                  have hnx : sumSz (fl.take (i + 1)) = sm + pw fl[i].bits := by rw [HSN.out, HVS.out]
                  have HNX := Lib.hid hnx
                  clear hnx
                  generalize pw fl[i].bits = z at *
                  have hwz := wsum hs0 hs1 hzp hzt
                  generalize fl[i].bits = fn at *
                  go_wp2
                  go_roundw
                  case rel => exact ⟨i + 1, by go_num, by omega, by first | rw [HNX.out, hwz] | rw [HNX.out, hsh2, hwz], HBE⟩
                  case measure => simp [intOf]; omega
          · obtain rfl : i = fl.length := by omega
            have hsb := sumSz_bound (l := fl) (fun f hf => (HFS.out.good f hf).1)
            have hsl := HSMA.out
            have hs1 : sumSz fl ≤ 1125899906842624 := by omega
            have hs0 := hsb.1
            rw [List.take_of_length_le (Nat.le_refl _)]
            have HEQ : Hid (sumSz fl + cin = pw rn) := HPT2
            have v1 : 6 ≤ rn := HVR.out.lo
            have v2 : rn ≤ 40 := HVR.out.hi
            have hsh : IntKind.i64.wrap (2 ^ rn.toNat) = pw rn := shl_one (by omega) (by omega)
            have hsh2 : wrap64 (2 ^ rn.toNat) = pw rn := shl_one64 (by omega) (by omega)
            have hcu : IntKind.u64.wrap rn = rn := by rw [IntKind.wrap_u64]; omega
            have hmin : min rn.toNat 64 = rn.toNat := by omega
            have hzt := pw_top (n := rn) (by omega) (by omega)
            have hzp := pw_pos rn
            generalize pw rn = z at *
            have hwz : wrap64 (sumSz fl + cin) = z := by rw [HEQ.out]; exact IntWalk.wrap64_in _ (by clear hsh hsh2 hcu hmin; omega)
            have hwy : IntKind.i64.wrap (sumSz fl + cin) = z := by rw [HEQ.out]; exact IntWalk.i64_in _ (by clear hsh hsh2 hcu hmin hwz; omega)
            have HBZ := Lib.hid (beln HBW.out HBI.out)
            have HXZ := Lib.hid (RB.next HXW.out HBI.out)
            have HIZ := Lib.hid (GRow.next HIW.out HBI.out)
            clear hsb hsl hs1 hs0 hzt hzp
            generalize sumSz fl = sm at *
            have hS : Below w.heap.size w wr.drew ∧ RB wr.drew w1.heap.size ⟨rb, rn⟩ ∧ GRow GR.cells 2 wr.drew wr.drew.heap.size Ai ins := ⟨HBZ.out.drew, RB.next HXZ.out (Below.refl _ wr).drew, GRow.next HIZ.out (Below.refl _ wr).drew⟩
            go_upto_region 26 with fail
            refine wp_region_growS (S := fun W => Below w.heap.size w W ∧ RB W w1.heap.size ⟨rb, rn⟩ ∧ GRow GR.cells 2 W W.heap.size Ai ins) [(0, true), (1, true), (4, true), (5, true), (6, true), (7, true), (2, false), (3, true), (8, true), (9, true), (10, false), (11, true), (12, true)] (by kernel_rfl) (by kernel_rfl) (by kernel_rfl) (by kernel_rfl) (by intro c a d v w h; cases d <;> exact h) hS ?_
            iterate 6
              (first
                | (refine wpGrowS_float (v := ?_) (by simp only [List.getElem?_toArray, List.getElem?_cons_succ, List.getElem?_cons_zero]; rfl) (by rfl) ?_ ?_
                   rotate_left
                   · (intro W hW; obtain ⟨f1a, f1b, _, _⟩ := RB.facts (hW.2.1); go_simp; try with_reducible rfl)
                   simp only [Act.put, List.setIfInBounds_toArray, List.set_cons_zero, List.set_cons_succ])
                | (refine wpGrowS_skip (by simp only [List.getElem?_toArray, List.getElem?_cons_succ, List.getElem?_cons_zero]; rfl) (by rfl) ?_
                   simp only [Act.put, List.setIfInBounds_toArray, List.set_cons_zero, List.set_cons_succ]))
            refine wpGrowS_call (by simp only [List.getElem?_toArray, List.getElem?_cons_succ, List.getElem?_cons_zero]; rfl) (by rfl) fun K hK => ?_
            go_simp
            go_fit (HCI.out Ai ci _ hS.2.2)
            rintro e wn ⟨rfl, hbn⟩
            have hSp := hS
            have hS : Below w.heap.size w wn ∧ RB wn w1.heap.size ⟨rb, rn⟩ ∧ GRow GR.cells 2 wn wn.heap.size Ai ins := ⟨beln (hS.1) hbn, RB.next (hS.2.1) hbn, GRow.next (hS.2.2) hbn⟩
            go_simp
            refine hK _ _ hS ?_
            clear hK K
            try simp only [Act.put, List.setIfInBounds_toArray, List.set_cons_zero, List.set_cons_succ]
            iterate 3
              (first
                | (refine wpGrowS_float (v := ?_) (by simp only [List.getElem?_toArray, List.getElem?_cons_succ, List.getElem?_cons_zero]; rfl) (by rfl) ?_ ?_
                   rotate_left
                   · (intro W hW; obtain ⟨f1a, f1b, _, _⟩ := RB.facts (hW.2.1); go_simp; try with_reducible rfl)
                   simp only [Act.put, List.setIfInBounds_toArray, List.set_cons_zero, List.set_cons_succ])
                | (refine wpGrowS_skip (by simp only [List.getElem?_toArray, List.getElem?_cons_succ, List.getElem?_cons_zero]; rfl) (by rfl) ?_
                   simp only [Act.put, List.setIfInBounds_toArray, List.set_cons_zero, List.set_cons_succ]))
            refine wpGrowS_call (by simp only [List.getElem?_toArray, List.getElem?_cons_succ, List.getElem?_cons_zero]; rfl) (by rfl) fun K hK => ?_
            go_simp
            go_fit (HAW.out _ (hS.1))
            rintro e wn ⟨rfl, hbn⟩
            have hSp := hS
            have hS : Below w.heap.size w wn ∧ RB wn w1.heap.size ⟨rb, rn⟩ ∧ GRow GR.cells 2 wn wn.heap.size Ai ins := ⟨beln (hS.1) hbn, RB.next (hS.2.1) hbn, GRow.next (hS.2.2) hbn⟩
            go_simp
            refine hK _ _ hS ?_
            clear hK K
            try simp only [Act.put, List.setIfInBounds_toArray, List.set_cons_zero, List.set_cons_succ]
            iterate 2
              (first
                | (refine wpGrowS_float (v := ?_) (by simp only [List.getElem?_toArray, List.getElem?_cons_succ, List.getElem?_cons_zero]; rfl) (by rfl) ?_ ?_
                   rotate_left
                   · (intro W hW; obtain ⟨f1a, f1b, _, _⟩ := RB.facts (hW.2.1); go_simp; try with_reducible rfl)
                   simp only [Act.put, List.setIfInBounds_toArray, List.set_cons_zero, List.set_cons_succ])
                | (refine wpGrowS_skip (by simp only [List.getElem?_toArray, List.getElem?_cons_succ, List.getElem?_cons_zero]; rfl) (by rfl) ?_
                   simp only [Act.put, List.setIfInBounds_toArray, List.set_cons_zero, List.set_cons_succ]))
            refine wpGrowS_nil ?_
            have HEND := Lib.hid hS.1
            clear hS hbn
            go_wp2
            go_ret
            exact ⟨rfl, HEND.out⟩
      · have hnil : fl = [] := HWH.out rfl
        subst hnil
        simp only [List.length_nil] at *
        go_wp2_with fail
        go_fit (HAW.out _ (HBW.out))
        rintro e w7 ⟨rfl, hb7⟩
        have HB7 := Lib.hid (beln HBW.out hb7)
        clear hb7
        go_wp2
        go_ret
        exact ⟨rfl, HB7.out⟩
end Go.Proofs.YtlndafkmihdbmaaDoor
