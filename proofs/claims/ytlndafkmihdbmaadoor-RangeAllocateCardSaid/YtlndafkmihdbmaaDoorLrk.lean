/-
  The law RangeAllocate returns true.
  Conditions: none.
-/
import Derived.Test.YtlndafkmihdbmaaDoorLrj
namespace Go.Proofs.YtlndafkmihdbmaaDoor
open Go.RowKit

theorem want_take {k : Int} : ∀ (l : List GR) (i : Nat), wantN k (l.take i) ≤ wantN k l
  | [], i => by simp
  | f :: l, 0 => by rw [List.take_zero]; exact wantN_nonneg k _
  | f :: l, i + 1 => by
    have := want_take (k := k) l i
    rw [List.take_succ_cons, wantN, wantN]; omega
theorem want_step {k : Int} {l : List GR} {i : Nat} (h : i < l.length) : wantN k (l.take (i + 1)) = wantN k (l.take i) + (if k ≤ l[i].bits then pw (l[i].bits - k) else 0) := by
  rw [List.take_succ_eq_append_getElem h, wantN_snoc]
set_option maxRecDepth 20000 in
set_option maxHeartbeats 8000000 in
theorem lallocate (a b : Int) (A : Option Addr) (len cap : Nat) (zs : List Int) (size : Int) (w : World) (hr : IRow w w.heap.size A len cap zs) (hG : T10 w) :
    Calls Tryd.prog 13 #[.int .i64 a, .int .i64 b, .slice A len cap, .int .i64 size] w fun e w' => e = .returned (.bool true) ∧ Below w.heap.size w w' := by
  have HSM := Lib.hid fun a b W => mSmall_any a b W
  have HSS := Lib.hid fun W h => mSmalls_any A len cap zs W h
  have HAW := Lib.hid fun W hb => awake10 W (T10.next hG hb)
  have HPL := Lib.hid fun W => mPlace_any size 11 (by omega) (by omega) W
  have HR0 := Lib.hid hr
  clear hr
  go_enter Tryd.func13, Tryd.ntmps13
  go_wp2_with fail
  go_fit (HSM.out a b _)
  rintro e w1 ⟨⟨rb, rn⟩, hvr, h16, htop, rfl, hb1⟩
  have HB1 := Lib.hid (belt hb1 (.cells #[.int .i64 rb, .int .i64 rn] 23))
  have HVR := Lib.hid hvr
  have H16 := Lib.hid (show rn ≤ 16 from h16)
  have HX1 := Lib.hid (RB.new w1 ⟨rb, rn⟩)
  have HI1 := Lib.hid (HSS.out _ (hR_keep HR0.out (belt hb1 (.cells #[.int .i64 rb, .int .i64 rn] 23))))
  clear hb1 hvr h16 htop HSM HSS HR0
  simp only [GR.val]
  go_wp2_with fail
  generalize w1.alloc (.cells #[.int .i64 rb, .int .i64 rn] 23) = wX at *
  go_fit HI1.out
  rintro e w2 ⟨v2, rfl, us, hs2⟩
  have ho2 := hs2.own
  have hul := hs2.few
  have hb2 := hs2.bel
  obtain ⟨A1, c1, rfl, hc1, hm1, hr1⟩ := ho2.row GR.len
  have HU2 := Lib.hid hr1
  have HO2 := Lib.hid ho2
  have HX2 := Lib.hid (RB.next HX1.out hb2)
  have HB2 := Lib.hid hb2
  have H1W : Hid (w1.heap.size < wX.heap.size) := Lib.hid (RB.lt HX1.out)
  clear hs2 ho2 hb2 hc1 hm1 hr1 HI1
  obtain ⟨f0, f1, _, _⟩ := RB.facts (RB.next HX2.out (Below.refl _ w2).drew)
  have v1 : 6 ≤ rn := HVR.out.lo
  have v2 : rn ≤ 16 := H16.out
  go_wp2_with fail
  go_upto_region 3 with fail
  go_cut [11] (fun v11 wx => ∃ k : Int, v11 = .int .i64 k ∧ 6 ≤ k ∧ k ≤ 16 ∧ rn - 6 ≤ k ∧ wx = w2.drew)
  case first =>
    go_region_law
      (first
        | (go_simp; go_at_call 37; go_fit (HPL.out _); rintro e wq ⟨p, hp0, hp1, rfl, rfl⟩))
    all_goals
      have hw1 : IntKind.i64.wrap (6 + p) = 6 + p := IntWalk.i64_in _ (by omega)
      have hw2 : IntKind.i64.wrap (rn - 6) = rn - 6 := IntWalk.i64_in _ (by omega)
      have HW1 := Lib.hid hw1
      have HW2 := Lib.hid hw2
      clear hw1 hw2
      generalize IntKind.i64.wrap (6 + p) = x at *
      generalize IntKind.i64.wrap (rn - 6) = y at *
      go_wp2_with fail
    all_goals
      go_meet
      have h1 := HW1.out
      have h2 := HW2.out
      exact ⟨_, rfl, by omega, by omega, by omega, rfl⟩
  case rest =>
    obtain ⟨k, rfl, hk6, hk16, hkr, rfl⟩ := hcut
    have HCP := Lib.hid fun us A c W h hl => copied_any us A c W h hl
    have HPF1 := Lib.hid fun A c W h hb => pFree_any ⟨rb, rn⟩ us A c W h (by omega) (T10.next hG hb)
    obtain ⟨fl, hfl⟩ : ∃ x, x = freeL ⟨rb, rn⟩ us := ⟨_, rfl⟩
    rw [← hfl] at HPF1
    have HFL := Lib.hid hfl
    have HFS := Lib.hid (freeL_spec us HVR.out)
    rw [← hfl] at HFS
    have HWB := Lib.hid (want_bound us HVR.out hk6 hkr)
    rw [← hfl] at HWB
    have hll := free_small us HVR.out H16.out
    rw [← hfl] at hll
    simp only [GR.val] at HPF1
    clear hfl f0 f1
    go_wp2_with fail
    have hS : Below wX.heap.size wX w2.drew.drew ∧ RB w2.drew.drew w1.heap.size ⟨rb, rn⟩ ∧ GRow GR.cells 2 w2.drew.drew w2.drew.drew.heap.size A1 us := ⟨HB2.out.drew.drew, RB.next HX2.out (Below.refl _ w2).drew.drew, GRow.next HU2.out (Below.refl _ w2).drew.drew⟩
    have HO3 : OwnR w2.drew.drew wX.heap.size (.slice A1 us.length c1) us := OwnG.next HO2.out (Below.refl _ w2).drew.drew
    go_upto_region 5 with fail
    refine wp_region_growS (S := fun W => Below wX.heap.size wX W ∧ RB W w1.heap.size ⟨rb, rn⟩ ∧ GRow GR.cells 2 W W.heap.size A1 us) [(0, true), (1, true), (2, false), (3, false), (4, true)] (by kernel_rfl) (by kernel_rfl) (by kernel_rfl) (by kernel_rfl) (by intro c a d v w h; cases d <;> exact h) hS ?_
    iterate 2
      (first
        | (refine wpGrowS_float (v := ?_) (by simp only [List.getElem?_toArray, List.getElem?_cons_succ, List.getElem?_cons_zero]; rfl) (by rfl) ?_ ?_
           rotate_left
           · (intro W hW; obtain ⟨f1a, f1b, _, _⟩ := RB.facts (hW.2.1); go_simp; try with_reducible rfl)
           simp only [Act.put, List.setIfInBounds_toArray, List.set_cons_zero, List.set_cons_succ])
        | (refine wpGrowS_skip (by simp only [List.getElem?_toArray, List.getElem?_cons_succ, List.getElem?_cons_zero]; rfl) (by rfl) ?_
           simp only [Act.put, List.setIfInBounds_toArray, List.set_cons_zero, List.set_cons_succ]))
    refine wpGrowS_call (by simp only [List.getElem?_toArray, List.getElem?_cons_succ, List.getElem?_cons_zero]; rfl) (by rfl) fun K hK => ?_
    go_simp
    go_fit (HCP.out us A1 c1 _ hS.2.2 (by omega))
    rintro e wn ⟨v3, rfl, ho3, hbn⟩
    have hSp := hS
    have hS : Below wX.heap.size wX wn ∧ RB wn w1.heap.size ⟨rb, rn⟩ ∧ GRow GR.cells 2 wn wn.heap.size A1 us := ⟨beln (hS.1) hbn, RB.next (hS.2.1) hbn, GRow.next (hS.2.2) hbn⟩
    have HO4 := OwnG.next HO3 hbn
    obtain ⟨A3, c3, rfl, hc3, hm3, hr3⟩ := ho3.row GR.len
    go_simp
    refine hK _ _ hS ?_
    clear hK K
    try simp only [Act.put, List.setIfInBounds_toArray, List.set_cons_zero, List.set_cons_succ]
    refine wpGrowS_call (by simp only [List.getElem?_toArray, List.getElem?_cons_succ, List.getElem?_cons_zero]; rfl) (by rfl) fun K hK => ?_
    go_simp
    go_fit (HPF1.out A3 c3 _ hr3 (beln HB1.out hS.1))
    rintro e wn ⟨v4, rfl, ho4, hbn⟩
    have hSp := hS
    have hS : Below wX.heap.size wX wn ∧ RB wn w1.heap.size ⟨rb, rn⟩ ∧ GRow GR.cells 2 wn wn.heap.size A1 us := ⟨beln (hS.1) hbn, RB.next (hS.2.1) hbn, GRow.next (hS.2.2) hbn⟩
    have HO4 := OwnG.next HO4 hbn
    go_simp
    refine hK _ _ hS ?_
    clear hK K
    try simp only [Act.put, List.setIfInBounds_toArray, List.set_cons_zero, List.set_cons_succ]
    iterate 1
      (first
        | (refine wpGrowS_float (v := ?_) (by simp only [List.getElem?_toArray, List.getElem?_cons_succ, List.getElem?_cons_zero]; rfl) (by rfl) ?_ ?_
           rotate_left
           · (intro W hW; obtain ⟨f1a, f1b, _, _⟩ := RB.facts (hW.2.1); go_simp; try with_reducible rfl)
           simp only [Act.put, List.setIfInBounds_toArray, List.set_cons_zero, List.set_cons_succ])
        | (refine wpGrowS_skip (by simp only [List.getElem?_toArray, List.getElem?_cons_succ, List.getElem?_cons_zero]; rfl) (by rfl) ?_
           simp only [Act.put, List.setIfInBounds_toArray, List.set_cons_zero, List.set_cons_succ]))
    refine wpGrowS_nil ?_
    obtain ⟨A2, c2, rfl, hc2, hm2, hr2⟩ := ho4.row GR.len
    have HB4 := Lib.hid hS.1
    have HX4 := Lib.hid hS.2.1
    have HOW := Lib.hid HO4
    have HF4 := Lib.hid hr2
    clear hS hbn ho3 ho4 hc3 hm3 hr3 hc2 hm2 hr2 HO3 HO4 HB2 HX2 HU2 HO2
    generalize wn = w4 at *
    go_wp2
    go_loopw [12, 14] (fun v12 v14 wr => ∃ i : Nat, v14 = .int .i64 i ∧ i ≤ fl.length ∧ v12 = .int .i64 (wantN k (fl.take i)) ∧ wr = w4) (fun _ v14 _ => fl.length - (intOf v14).toNat)
    case atStart => exact ⟨0, rfl, Nat.zero_le _, by simp [wantN], rfl⟩
    case round =>
      obtain ⟨i, rfl, hi, rfl, rfl⟩ := hrel
      rcases Nat.lt_or_ge i fl.length with hlt | hge
      · obtain ⟨b2, o2, rfl, hb2, x0, x1⟩ := HF4.out.rng hlt
        have HWS := Lib.hid (want_step (k := k) hlt)
        have hw0 := wantN_nonneg k (fl.take i)
        have hw1 : wantN k (fl.take i) ≤ 64 := Int.le_trans (want_take fl i) HWB.out
        have hbt : fl[i].bits ≤ rn := con_bits (HFS.out.good fl[i] (List.getElem_mem hlt)).2.1
        generalize fl[i].bits = fb at *
        generalize wantN k (fl.take i) = wn0 at *
        by_cases hb : k ≤ fb
        · rw [if_pos hb] at HWS
          have hs1 : IntKind.i64.wrap (fb - k) = fb - k := IntWalk.i64_in _ (by omega)
          have hcu : IntKind.u64.wrap (fb - k) = fb - k := by rw [IntKind.wrap_u64]; omega
          have hmin : min (fb - k).toNat 64 = (fb - k).toNat := by omega
          have hzp := pw_pos (fb - k)
          have hzt := pw16 (n := fb - k) (by omega) (by omega)
          have g1h : 0 ≤ (fb - k) := by omega
          have g2h : (fb - k) ≤ 62 := by omega
          have hsh : IntKind.i64.wrap (2 ^ (fb - k).toNat) = pw (fb - k) := shl_one g1h g2h
          have hsh2 : wrap64 (2 ^ (fb - k).toNat) = pw (fb - k) := shl_one64 g1h g2h
          clear g1h g2h
          generalize pw (fb - k) = z at *
          have hwz : wrap64 (wn0 + z) = wn0 + z := wsum2 hw0 (Int.le_trans hw1 (by decide)) hzp (Int.le_trans hzt (by decide))
          have db : decide (k ≤ fb) = true := decide_eq_true hb
          have HSH2 := Lib.hid hsh2
          have HWZ := Lib.hid hwz
          go_wp2
          clear hsh hsh2 hcu hmin hs1 hwz
          go_roundw
          case rel => exact ⟨i + 1, by go_num, by omega, by first | rw [HWS.out, HSH2.out, HWZ.out] | rw [HWS.out, HWZ.out] | rw [HWS.out], trivial⟩
          case measure => simp [intOf]; omega
        · rw [if_neg hb] at HWS
          have db : decide (k ≤ fb) = false := decide_eq_false hb
          go_wp2
          go_roundw
          case rel => exact ⟨i + 1, by go_num, by omega, by rw [HWS.out, Int.add_zero], trivial⟩
          case measure => simp [intOf]; omega
      · obtain rfl : i = fl.length := by omega
        rw [List.take_of_length_le (Nat.le_refl _)] at *
        have HWT : Hid (wantN k fl = wantN k (freeL ⟨rb, rn⟩ us)) := Lib.hid (by rw [HFL.out])
        generalize wantN k fl = want at *
        clear HFS hll hi hge HPF1 HF4 HFL
        go_wp2
        go_loopw [10, 15] (fun v10 v15 wr => ∃ (i : Nat) (ut : List GR), v15 = .int .i64 i ∧ i ≤ 80 ∧ Hid (OwnR wr wX.heap.size v10 ut ∧ ut.length = us.length + i ∧ (i : Int) + wantN k (freeL ⟨rb, rn⟩ ut) = want) ∧ Hid (Below wX.heap.size wX wr) ∧ Hid (RB wr w1.heap.size ⟨rb, rn⟩)) (fun _ v15 _ => 80 - (intOf v15).toNat)
        case atStart => exact ⟨0, us, rfl, by omega, Lib.hid ⟨HOW.out, by simp, by rw [HWT.out]; simp⟩, HB4, HX4⟩
        case round =>
          obtain ⟨i, ut, rfl, hi, HO, HBI, HXI⟩ := hrel
          obtain ⟨A1, c1, rfl, hc1, hm1, hr1⟩ := OwnG.row GR.len HO.out.1
          have HUS := Lib.hid hr1
          have hutl : ut.length ≤ 120 := by have := HO.out.2.1; omega
          have HWE := Lib.hid HO.out.2.2
          have hwn := wantN_nonneg k (freeL ⟨rb, rn⟩ ut)
          have HNN := Lib.hid hwn
          have hi80 : i < 80 := by have := HO.out.2.2; have := HWB.out; omega
          have HXS := HXI
          have HSO := Lib.hid fun x h => alloc_some (r := ⟨rb, rn⟩) (us := ut) (k := k) (x := x) HVR.out hk6 h
          have HNO := Lib.hid fun h => alloc_none (r := ⟨rb, rn⟩) (us := ut) (k := k) hk6 h
          have HFX0 := Lib.hid fun x h => find_some (r := ⟨rb, rn⟩) (us := ut) (n := k) (x := x) HVR.out h
          have HPF := Lib.hid fun A c W h hb => pFind_any ⟨rb, rn⟩ ut k A c W h (by omega) (T10.next hG hb)
          have HCP := Lib.hid fun A c W h => HCP.out ut A c W h (by omega)
          simp only [GR.val] at HPF
          generalize hfx : findL ⟨rb, rn⟩ ut k = fx at *
          clear hfx hc1 hm1 hr1 hwn
          generalize wr = wS at *
          rcases fx with _ | ⟨xb, xn⟩
          · simp only [optV, GR.val, zR] at HPF
            have HZ0 := Lib.hid (HNO.out rfl)
            have HIW : Hid ((i : Int) = want) := Lib.hid (by have h1 := HWE.out; have h2 := HZ0.out; omega)
            go_upto_region 14 with fail
            go_cut [16, 17] (fun vx vo wx => ∃ N7 : Nat, vx = .pointer (some ⟨N7, 0, none⟩) ∧ vo = .bool false ∧ Hid (Below wS.heap.size wS wx ∧ RB wx N7 ⟨0, 0⟩))
            case first =>
              have hd : Below wS.heap.size wS wS.drew := (Below.refl _ wS).drew
              have h1x := RB.next HXS.out hd
              have h1u := GRow.next HUS.out hd
              have hz1 : Below wS.heap.size wS (wS.alloc (.cells #[.int .i64 0, .int .i64 0] 23)).drew := ((Below.refl _ _).alloc (Nat.le_refl _) _).drew
              have h1zx := RB.next HXS.out hz1
              have h1zu := GRow.next HUS.out hz1
              have h1zy := RB.next HXS.out ((Below.refl _ _).alloc (Nat.le_refl _) (.cells #[.int .i64 0, .int .i64 0] 23))
              have hN0 : w1.heap.size < wS.heap.size := RB.lt HXS.out
              obtain ⟨k0, k1, _, _⟩ := RB.facts h1zy
              have hzr : RB (wS.alloc (.cells #[.int .i64 0, .int .i64 0] 23)).drew wS.heap.size ⟨0, 0⟩ := RB.new wS ⟨0, 0⟩
              obtain ⟨f0, f1, _, _⟩ := RB.facts h1x
              obtain ⟨g0, g1, _, _⟩ := RB.facts h1zx
              go_region_law
                (first
                  | (go_simp; go_at_call 28; go_fit (HCP.out A1 c1 _ h1u); rintro e w2q ⟨v1, rfl, ho1, hbn⟩; obtain ⟨A5, c5, rfl, hc5, hm5, hr1⟩ := ho1.row GR.len; have h2b := beln hd hbn; have h2x := RB.next h1x hbn; have hz2 : Below w2q.heap.size w2q (w2q.alloc (.cells #[.int .i64 0, .int .i64 0] 23)) := (Below.refl _ _).alloc (Nat.le_refl _) _; have hzr2 := RB.new w2q ⟨0, 0⟩; have hr1z := GRow.next hr1 hz2; have h2zb := beln h2b hz2; have h2zx := RB.next h2x hz2; obtain ⟨p0, p1, _, _⟩ := RB.facts h2x; obtain ⟨p2, p3, _, _⟩ := RB.facts h2zx)
                  | (go_simp; go_at_call 28; go_fit (HCP.out A1 c1 _ h1zu); rintro e w2q ⟨v1, rfl, ho1, hbn⟩; obtain ⟨A5, c5, rfl, hc5, hm5, hr1⟩ := ho1.row GR.len; have h2b := beln hz1 hbn; have h2x := RB.next h1zx hbn; have hzr2 := RB.next hzr hbn; obtain ⟨p0, p1, _, _⟩ := RB.facts h2x)
                  | (go_simp; go_at_call 30; go_fit (HPF.out _ _ _ (by assumption) (beln HB1.out (beln HBI.out (by assumption)))); rintro e w3q ⟨rfl, hbn⟩; have h3b := beln (w := wS) (by assumption) hbn; (first | (have hz3 := RB.next (N := wS.heap.size) (r := ⟨0, 0⟩) (by assumption) hbn; obtain ⟨y0, y1, z0, z1⟩ := RB.facts hz3) | (have hz3 := RB.next (N := _) (r := ⟨0, 0⟩) hzr2 hbn; obtain ⟨y0, y1, z0, z1⟩ := RB.facts hz3) | skip)))
              all_goals
                first
                  | (show Exit.then _ _ _ _ (w3q.alloc (.cells #[.int .i64 0, .int .i64 0] 23))
                     have hE : Below wS.heap.size wS (w3q.alloc (.cells #[.int .i64 0, .int .i64 0] 23)) ∧ RB (w3q.alloc (.cells #[.int .i64 0, .int .i64 0] 23)) w3q.heap.size ⟨0, 0⟩ := ⟨belt h3b _, RB.new w3q ⟨0, 0⟩⟩)
                  | (show Exit.then _ _ _ _ ((w3q.setCell ⟨w2q.heap.size, 0, none⟩ (.int .i64 0)).setCell ⟨w2q.heap.size, 1, none⟩ (.int .i64 0))
                     have hE := put_end2 h3b hz3 h2b.size 0 0)
                  | (show Exit.then _ _ _ _ ((w3q.setCell ⟨wS.heap.size, 0, none⟩ (.int .i64 0)).setCell ⟨wS.heap.size, 1, none⟩ (.int .i64 0))
                     have hE := put_end2 h3b hz3 (Nat.le_refl _) 0 0)
                have HEE := Lib.hid hE
                clear hE h3b
                go_wp2_with fail
                go_meet
                exact ⟨_, rfl, rfl, HEE⟩
            case rest =>
              obtain ⟨N7, rfl, rfl, HE⟩ := hcut
              have hE := HE.out
              generalize wc = w4 at *
              have HB4' := Lib.hid (beln HB1.out (beln HBI.out hE.1))
              have HA := Lib.hid (HAW.out w4 HB4'.out)
              have he : ((i : Int) == want) = true := by rw [HIW.out]; simp
              clear hE
              go_wp2_with fail
              go_fit HA.out
              rintro e w5 ⟨rfl, hb5⟩
              have HB5 := Lib.hid (beln HB4'.out hb5)
              clear hb5
              go_wp2
              go_ret
              exact ⟨rfl, HB5.out⟩
          · have HFX := Lib.hid (HFX0.out _ rfl)
            obtain rfl : xn = k := HFX.out.bits
            have HST := Lib.hid (HSO.out _ rfl)
            simp only [optV, GR.val] at HPF
            go_upto_region 14 with fail
            go_cut [16, 17] (fun vx vo wx => ∃ N7 : Nat, vx = .pointer (some ⟨N7, 0, none⟩) ∧ vo = .bool true ∧ Hid (Below wS.heap.size wS wx ∧ RB wx N7 ⟨xb, xn⟩))
            case first =>
              have hd : Below wS.heap.size wS wS.drew := (Below.refl _ wS).drew
              have h1x := RB.next HXS.out hd
              have h1u := GRow.next HUS.out hd
              have hz1 : Below wS.heap.size wS (wS.alloc (.cells #[.int .i64 0, .int .i64 0] 23)).drew := ((Below.refl _ _).alloc (Nat.le_refl _) _).drew
              have h1zx := RB.next HXS.out hz1
              have h1zu := GRow.next HUS.out hz1
              have h1zy := RB.next HXS.out ((Below.refl _ _).alloc (Nat.le_refl _) (.cells #[.int .i64 0, .int .i64 0] 23))
              have hN0 : w1.heap.size < wS.heap.size := RB.lt HXS.out
              obtain ⟨k0, k1, _, _⟩ := RB.facts h1zy
              have hzr : RB (wS.alloc (.cells #[.int .i64 0, .int .i64 0] 23)).drew wS.heap.size ⟨0, 0⟩ := RB.new wS ⟨0, 0⟩
              obtain ⟨f0, f1, _, _⟩ := RB.facts h1x
              obtain ⟨g0, g1, _, _⟩ := RB.facts h1zx
              go_region_law
                (first
                  | (go_simp; go_at_call 28; go_fit (HCP.out A1 c1 _ h1u); rintro e w2q ⟨v1, rfl, ho1, hbn⟩; obtain ⟨A5, c5, rfl, hc5, hm5, hr1⟩ := ho1.row GR.len; have h2b := beln hd hbn; have h2x := RB.next h1x hbn; have hz2 : Below w2q.heap.size w2q (w2q.alloc (.cells #[.int .i64 0, .int .i64 0] 23)) := (Below.refl _ _).alloc (Nat.le_refl _) _; have hzr2 := RB.new w2q ⟨0, 0⟩; have hr1z := GRow.next hr1 hz2; have h2zb := beln h2b hz2; have h2zx := RB.next h2x hz2; obtain ⟨p0, p1, _, _⟩ := RB.facts h2x; obtain ⟨p2, p3, _, _⟩ := RB.facts h2zx)
                  | (go_simp; go_at_call 28; go_fit (HCP.out A1 c1 _ h1zu); rintro e w2q ⟨v1, rfl, ho1, hbn⟩; obtain ⟨A5, c5, rfl, hc5, hm5, hr1⟩ := ho1.row GR.len; have h2b := beln hz1 hbn; have h2x := RB.next h1zx hbn; have hzr2 := RB.next hzr hbn; obtain ⟨p0, p1, _, _⟩ := RB.facts h2x)
                  | (go_simp; go_at_call 30; go_fit (HPF.out _ _ _ (by assumption) (beln HB1.out (beln HBI.out (by assumption)))); rintro e w3q ⟨rfl, hbn⟩; have h3b := beln (w := wS) (by assumption) hbn; (first | (have hz3 := RB.next (N := wS.heap.size) (r := ⟨0, 0⟩) (by assumption) hbn; obtain ⟨y0, y1, z0, z1⟩ := RB.facts hz3) | (have hz3 := RB.next (N := _) (r := ⟨0, 0⟩) hzr2 hbn; obtain ⟨y0, y1, z0, z1⟩ := RB.facts hz3) | skip)))
              all_goals
                first
                  | (show Exit.then _ _ _ _ (w3q.alloc (.cells #[.int .i64 xb, .int .i64 xn] 23))
                     have hE : Below wS.heap.size wS (w3q.alloc (.cells #[.int .i64 xb, .int .i64 xn] 23)) ∧ RB (w3q.alloc (.cells #[.int .i64 xb, .int .i64 xn] 23)) w3q.heap.size ⟨xb, xn⟩ := ⟨belt h3b _, RB.new w3q ⟨xb, xn⟩⟩)
                  | (show Exit.then _ _ _ _ ((w3q.setCell ⟨w2q.heap.size, 0, none⟩ (.int .i64 xb)).setCell ⟨w2q.heap.size, 1, none⟩ (.int .i64 xn))
                     have hE := put_end2 h3b hz3 h2b.size xb xn)
                  | (show Exit.then _ _ _ _ ((w3q.setCell ⟨wS.heap.size, 0, none⟩ (.int .i64 xb)).setCell ⟨wS.heap.size, 1, none⟩ (.int .i64 xn))
                     have hE := put_end2 h3b hz3 (Nat.le_refl _) xb xn)
                have HEE := Lib.hid hE
                clear hE h3b
                go_wp2_with fail
                go_meet
                exact ⟨_, rfl, rfl, HEE⟩
            case rest =>
              obtain ⟨N7, rfl, rfl, HE⟩ := hcut
              have hE := HE.out
              generalize wc = w4 at *
              obtain ⟨hb4, hy4⟩ := hE
              have HB4 := Lib.hid (beln HBI.out hb4)
              have HX4 := Lib.hid (RB.next HXI.out hb4)
              have HY4 := Lib.hid hy4
              have HO4 := Lib.hid (OwnG.next HO.out.1 hb4)
              have HU4 := Lib.hid (GRow.next HUS.out hb4)
              clear hb4 hy4
              go_wp2
              go_loopw [18] (fun v18 wr => ∃ j : Nat, v18 = .int .i64 j ∧ j ≤ ut.length ∧ Hid (Below w4.heap.size w4 wr)) (fun v18 _ => ut.length - (intOf v18).toNat)
              case atStart => exact ⟨0, rfl, Nat.zero_le _, Lib.hid (Below.refl _ _)⟩
              case round =>
                obtain ⟨j, rfl, hj, HBJ⟩ := hrel
                rcases Nat.lt_or_ge j ut.length with hk2 | hk2
                · obtain ⟨b3, o3, rfl, hb3, _, _⟩ := (HU4.out.next HBJ.out).rng hk2
                  have HOK := fun W => rOv_any ⟨xb, xn⟩ ut[j] W
                  rw [HFX.out.clr ut[j] (List.getElem_mem hk2)] at HOK
                  simp only [GR.val] at HOK
                  have hS : Below wr.heap.size wr wr.drew ∧ RB wr.drew N7 ⟨xb, xn⟩ ∧ GRow GR.cells 2 wr.drew wr.drew.heap.size (some ⟨b3, o3, none⟩) ut := ⟨(Below.refl _ wr).drew, RB.next (RB.next HY4.out HBJ.out) (Below.refl _ wr).drew, GRow.next (GRow.next HU4.out HBJ.out) (Below.refl _ wr).drew⟩
                  go_upto_region 20 with fail
                  refine wp_region_growS (S := fun W => Below wr.heap.size wr W ∧ RB W N7 ⟨xb, xn⟩ ∧ GRow GR.cells 2 W W.heap.size (some ⟨b3, o3, none⟩) ut) [(0, true), (1, true), (2, true), (3, true), (4, true), (5, false)] (by kernel_rfl) (by kernel_rfl) (by kernel_rfl) (by kernel_rfl) (by intro c a d v w h; cases d <;> exact h) hS ?_
                  iterate 5
                    (first
                      | (refine wpGrowS_float (v := ?_) (by simp only [List.getElem?_toArray, List.getElem?_cons_succ, List.getElem?_cons_zero]; rfl) (by rfl) ?_ ?_
                         rotate_left
                         · (intro W hW; obtain ⟨f1a, f1b, _, _⟩ := RB.facts (hW.2.1); obtain ⟨q0, q1⟩ := (hW.2.2).rngAt hk2; go_simp; try with_reducible rfl)
                         simp only [Act.put, List.setIfInBounds_toArray, List.set_cons_zero, List.set_cons_succ])
                      | (refine wpGrowS_skip (by simp only [List.getElem?_toArray, List.getElem?_cons_succ, List.getElem?_cons_zero]; rfl) (by rfl) ?_
                         simp only [Act.put, List.setIfInBounds_toArray, List.set_cons_zero, List.set_cons_succ]))
                  refine wpGrowS_call (by simp only [List.getElem?_toArray, List.getElem?_cons_succ, List.getElem?_cons_zero]; rfl) (by rfl) fun K hK => ?_
                  go_simp
                  go_fit (HOK _)
                  rintro e wn ⟨rfl, hbn⟩
                  have hSp := hS
                  have hS : Below wr.heap.size wr wn ∧ RB wn N7 ⟨xb, xn⟩ ∧ GRow GR.cells 2 wn wn.heap.size (some ⟨b3, o3, none⟩) ut := ⟨beln (hS.1) hbn, RB.next (hS.2.1) hbn, GRow.next (hS.2.2) hbn⟩
                  go_simp
                  refine hK _ _ hS ?_
                  clear hK K
                  try simp only [Act.put, List.setIfInBounds_toArray, List.set_cons_zero, List.set_cons_succ]
                  refine wpGrowS_nil ?_
                  have HBE := Lib.hid (beln HBJ.out hS.1)
                  clear hS hbn HOK
                  go_wp2
                  go_roundw
                  case rel => exact ⟨j + 1, by go_num, by omega, HBE⟩
                  case measure => simp [intOf]; omega
                · obtain rfl : j = ut.length := by omega
                  have HB5 := Lib.hid (beln HB4.out HBJ.out)
                  have HO5 := Lib.hid (OwnG.next HO4.out HBJ.out)
                  have HX5 := Lib.hid (RB.next HX4.out HBJ.out)
                  obtain ⟨y0, y1, _, _⟩ := RB.facts (RB.next HY4.out HBJ.out)
                  obtain ⟨v9, w9, hrun, hown, hg9, _⟩ := OwnG.app elt_rng GR.len GR.one (HO5.out.alloc (.cells #[.int .i64 xb, .int .i64 xn] 23)) 1 (lit_rng wr ⟨xb, xn⟩) (by have := HB5.out.size; simp; omega) (by unfold maxLen; simp; omega) (by simp; omega)
                  have HRUN := Lib.hid hrun
                  have h1w := H1W.out
                  have hlow : ∀ g, Value.ownBlock (.slice A1 ut.length c1) = some g → wX.heap.size ≤ g := fun g e => (HO5.out.lt g e).1
                  have HBN := Lib.hid ((belt HB5.out (.cells #[.int .i64 xb, .int .i64 xn] 23)).grown hg9 (by have := HB5.out.size; simp; omega) hlow)
                  have HXN := Lib.hid (RB.gb (RB.next HX5.out (belt (Below.refl _ wr) (.cells #[.int .i64 xb, .int .i64 xn] 23))) hg9 (fun e => by have := hlow _ e; omega))
                  have HNW : Hid (OwnR w9 wX.heap.size v9 (ut ++ [⟨xb, xn⟩]) ∧ (ut ++ [(⟨xb, xn⟩ : GR)]).length = us.length + (i + 1) ∧ ((i + 1 : Nat) : Int) + wantN xn (freeL ⟨rb, rn⟩ (ut ++ [⟨xb, xn⟩])) = want) := Lib.hid ⟨hown, by have := HO.out.2.1; simp; omega, by have h1 := HO.out.2.2; have h2 := HST.out; omega⟩
                  clear hrun hown hg9
                  generalize ut.length = un at *
                  go_wp2_with (at_builtin; refine wpList_gapp HRUN.out rfl rfl rfl rfl rfl ?_)
                  go_roundw
                  case rel => exact ⟨i + 1, _, by go_num, by omega, HNW, HBN, HXN⟩
                  case measure => simp [intOf]; omega
end Go.Proofs.YtlndafkmihdbmaaDoor
