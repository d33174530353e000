/-
  The law RangeLowest returns true.
  Conditions: none.
-/
import Derived.Test.YtlndafkmihdbmaaDoorLri
namespace Go.Proofs.YtlndafkmihdbmaaDoor
open Go.RowKit

theorem put_end2 {w w3 : World} {N : Nat} {z : GR} (hb : Below w.heap.size w w3) (hz : RB w3 N z) (h1 : w.heap.size ≤ N) (x n : Int) :
    Below w.heap.size w ((w3.setCell ⟨N, 0, none⟩ (.int .i64 x)).setCell ⟨N, 1, none⟩ (.int .i64 n)) ∧ RB ((w3.setCell ⟨N, 0, none⟩ (.int .i64 x)).setCell ⟨N, 1, none⟩ (.int .i64 n)) N ⟨x, n⟩ :=
  ⟨(hb.setCell (p := ⟨N, 0, none⟩) h1 _).setCell (p := ⟨N, 1, none⟩) h1 _, hz.put x n⟩
theorem pw16 {n : Int} (h0 : 0 ≤ n) (h1 : n ≤ 16) : pw n ≤ 65536 := by
  have h2 := pw_le h1 h0
  have h3 : pw 16 = 65536 := by decide
  omega
theorem at_block {r : GR} (h : VR r) {k b : Int} (h6 : 6 ≤ k) (hk : k ≤ r.bits) (hm : b % pw k = 0) (h1 : r.base ≤ b) (h2 : b < r.base + r.sz) : VR ⟨b, k⟩ ∧ conR r ⟨b, k⟩ = true := by
  obtain ⟨v1, v2, _⟩ := blk_ok h h6 hk (in_iff.2 ⟨h, h1, h2⟩)
  have e : blk k b = ⟨b, k⟩ := by unfold blk; rw [hm, Int.sub_zero]
  rw [e] at v1 v2
  exact ⟨v1, v2⟩
theorem base_mod {r : GR} (h : VR r) {k : Int} (h6 : 6 ≤ k) (hk : k ≤ r.bits) : r.base % pw k = 0 := by
  obtain ⟨q, _, e⟩ := pw_dvd hk (by omega)
  have ha := Int.mul_ediv_add_emod r.base r.sz
  rw [h.al, Int.add_zero, show r.sz = q * pw k from e] at ha
  rw [← ha, Int.mul_comm q, Int.mul_assoc]
  exact Int.mul_emod_right _ _
/-- Two blocks of one size, one in front of the other. -/
theorem apart {x y : GR} (hx : VR x) (hy : VR y) (hb : x.bits = y.bits) (hlt : y.base < x.base) : y.base + y.sz ≤ x.base := by
  rcases Int.lt_or_le x.base (y.base + y.sz) with h | h
  · have hs := sz_pos x
    have := same_size (ov_iff.2 ⟨hx, hy, by omega, by omega⟩) hb
    rw [this] at hlt
    omega
  · exact h
/-- Where the search for the lowest block stands: b is in front of what is found, if anything is. -/
structure LowAt (r : GR) (k b : Int) (fx : Option GR) : Prop where
  m : b % pw k = 0
  lo : r.base ≤ b
  hi : b ≤ r.base + r.sz
  bef : ∀ x, fx = some x → b ≤ x.base
theorem LowAt.next {r : GR} (h : VR r) {us : List GR} {k b : Int} (h6 : 6 ≤ k) (hk : k ≤ r.bits) (H : LowAt r k b (findL r us k)) (hlt : b < r.base + r.sz) (hne : ∀ x, findL r us k = some x → x ≠ ⟨b, k⟩) : LowAt r k (b + pw k) (findL r us k) ∧ us.any (ovR ⟨b, k⟩) = true := by
  obtain ⟨v1, v2⟩ := at_block h h6 hk H.m H.lo hlt
  have hc := con_iff.1 v2
  have hs : GR.sz ⟨b, k⟩ = pw k := rfl
  have hp := pw_pos k
  simp only at hc
  rw [hs] at hc
  refine ⟨⟨by rw [Int.add_emod_right]; exact H.m, by have := H.lo; omega, by omega, fun x hx => ?_⟩, ?_⟩
  · have F := find_some h hx
    have hb := H.bef x hx
    have hn := hne x hx
    have : b < x.base := by
      rcases Int.lt_or_le b x.base with h9 | h9
      · exact h9
      · exfalso
        apply hn
        have e1 : x.base = b := by omega
        have e2 := F.bits
        cases x
        simp only at e1 e2
        rw [e1, e2]
    exact apart F.val v1 F.bits this
  · refine Classical.byContradiction fun hno => ?_
    have hcl : ∀ u ∈ us, ovR ⟨b, k⟩ u = false := fun u hu => by
      rw [Bool.eq_false_iff]
      exact fun hq => hno (List.any_eq_true.2 ⟨u, hu, hq⟩)
    cases hf : findL r us k with
    | none =>
      obtain ⟨u, hu, ho⟩ := find_none (y := ⟨b, k⟩) h h6 hf rfl v2
      rw [hcl u hu] at ho; cases ho
    | some x =>
      have F := find_some h hf
      have h1 := F.first ⟨b, k⟩ rfl v2 hcl
      have h2 := H.bef x hf
      simp only at h1
      apply hne x hf
      have e1 : x.base = b := by omega
      have e2 := F.bits
      cases x
      simp only at e1 e2
      rw [e1, e2]
set_option maxRecDepth 20000 in
set_option maxHeartbeats 8000000 in
theorem llowest (a b : Int) (A : Option Addr) (len cap : Nat) (zs : List Int) (size : Int) (w : World) (hr : IRow w w.heap.size A len cap zs) (hG : T10 w) :
    Calls Tryd.prog 12 #[.int .i64 a, .int .i64 b, .slice A len cap, .int .i64 size] w fun e w' => e = .returned (.bool true) ∧ Below w.heap.size w w' := by
  have HSM := Lib.hid fun a b W => mSmall_any a b W
  have HSS := Lib.hid fun W h => mSmalls_any A len cap zs W h
  have HAW := Lib.hid fun W hb => awake10 W (T10.next hG hb)
  have HPL := Lib.hid fun W => mPlace_any size 11 (by omega) (by omega) W
  have HR0 := Lib.hid hr
  clear hr
  go_enter Tryd.func12, Tryd.ntmps12
  go_wp2_with fail
  go_fit (HSM.out a b _)
  rintro e w1 ⟨⟨rb, rn⟩, hvr, h16, htop, rfl, hb1⟩
  have HB1 := Lib.hid (belt hb1 (.cells #[.int .i64 rb, .int .i64 rn] 23))
  have HVR := Lib.hid hvr
  have H16 := Lib.hid h16
  have HTOP := Lib.hid htop
  have HX1 := Lib.hid (RB.new w1 ⟨rb, rn⟩)
  have HI1 := Lib.hid (HSS.out _ (hR_keep HR0.out (belt hb1 (.cells #[.int .i64 rb, .int .i64 rn] 23))))
  clear hb1 hvr h16 htop HSM HSS HR0
  simp only [GR.val]
  go_wp2_with fail
  go_fit HI1.out
  rintro e wS ⟨v2, rfl, us, hs2⟩
  have ho2 := hs2.own
  have hul := hs2.few
  have hb2 := hs2.bel
  obtain ⟨A1, c1, rfl, hc1, hm1, hr1⟩ := ho2.row GR.len
  have HUS := Lib.hid hr1
  have HXS := Lib.hid (RB.next HX1.out hb2)
  have HB2 := Lib.hid (beln HB1.out hb2)
  clear hs2 ho2 hb2 hc1 hm1 hr1 HI1
  go_wp2_with fail
  go_fit (HPL.out _)
  rintro e wq ⟨p, hp0, hp1, rfl, rfl⟩
  have HCP := Lib.hid fun A c W h => copied_any us A c W h (by omega)
  go_wp2_with fail
  obtain ⟨k, hk⟩ : ∃ k, k = 6 + p := ⟨_, rfl⟩
  have hk6 : 6 ≤ k := by omega
  have hk16 : k ≤ 16 := by omega
  rw [← hk]
  clear hk hp0 hp1 HPL
  have HPF := Lib.hid fun A c W h hb => pFind_any ⟨rb, rn⟩ us k A c W h (by omega) (T10.next hG hb)
  have HFS := Lib.hid fun x h => find_some (r := ⟨rb, rn⟩) (us := us) (n := k) (x := x) HVR.out h
  have HNX := Lib.hid fun bb h1 h2 h3 h4 => LowAt.next (r := ⟨rb, rn⟩) (us := us) (k := k) (b := bb) HVR.out hk6 h1 h2 h3 h4
  simp only [GR.val] at HPF
  generalize hfx : findL ⟨rb, rn⟩ us k = fx at *
  clear hfx
  rcases fx with _ | ⟨xb, xn⟩
  · obtain ⟨fx, hfx2⟩ : ∃ fx : Option GR, fx = none := ⟨_, rfl⟩
    subst hfx2
    simp only [optV, GR.val, zR] at HPF
    go_upto_region 4 with fail
    go_cut [12, 13] (fun vx vo wx => ∃ N7 : Nat, vx = .pointer (some ⟨N7, 0, none⟩) ∧ vo = .bool false ∧ Hid (Below wS.heap.size wS wx ∧ RB wx N7 ⟨0, 0⟩))
    case first =>
      have hd : Below wS.heap.size wS wS.drew := (Below.refl _ wS).drew
      have h1x := RB.next HXS.out hd
      have h1u := GRow.next HUS.out hd
      have hz1 : Below wS.heap.size wS (wS.alloc (.cells #[.int .i64 0, .int .i64 0] 23)).drew := ((Below.refl _ _).alloc (Nat.le_refl _) _).drew
      have h1zx := RB.next HXS.out hz1
      have h1zu := GRow.next HUS.out hz1
      have h1zy := RB.next HXS.out ((Below.refl _ _).alloc (Nat.le_refl _) (.cells #[.int .i64 0, .int .i64 0] 23))
      have hN0 : w1.heap.size < wS.heap.size := RB.lt HXS.out
      obtain ⟨k0, k1, _, _⟩ := RB.facts h1zy
      have hzr : RB (wS.alloc (.cells #[.int .i64 0, .int .i64 0] 23)).drew wS.heap.size ⟨0, 0⟩ := RB.new wS ⟨0, 0⟩
      obtain ⟨f0, f1, _, _⟩ := RB.facts h1x
      obtain ⟨g0, g1, _, _⟩ := RB.facts h1zx
      go_region_law
        (first
          | (go_simp; go_at_call 28; go_fit (HCP.out A1 c1 _ h1u); rintro e w2q ⟨v1, rfl, ho1, hbn⟩; obtain ⟨A5, c5, rfl, hc5, hm5, hr1⟩ := ho1.row GR.len; have h2b := beln hd hbn; have h2x := RB.next h1x hbn; have hz2 : Below w2q.heap.size w2q (w2q.alloc (.cells #[.int .i64 0, .int .i64 0] 23)) := (Below.refl _ _).alloc (Nat.le_refl _) _; have hzr2 := RB.new w2q ⟨0, 0⟩; have hr1z := GRow.next hr1 hz2; have h2zb := beln h2b hz2; have h2zx := RB.next h2x hz2; obtain ⟨p0, p1, _, _⟩ := RB.facts h2x; obtain ⟨p2, p3, _, _⟩ := RB.facts h2zx)
          | (go_simp; go_at_call 28; go_fit (HCP.out A1 c1 _ h1zu); rintro e w2q ⟨v1, rfl, ho1, hbn⟩; obtain ⟨A5, c5, rfl, hc5, hm5, hr1⟩ := ho1.row GR.len; have h2b := beln hz1 hbn; have h2x := RB.next h1zx hbn; have hzr2 := RB.next hzr hbn; obtain ⟨p0, p1, _, _⟩ := RB.facts h2x)
          | (go_simp; go_at_call 30; go_fit (HPF.out _ _ _ (by assumption) (beln HB2.out (by assumption))); rintro e w3q ⟨rfl, hbn⟩; have h3b := beln (w := wS) (by assumption) hbn; (first | (have hz3 := RB.next (N := wS.heap.size) (r := ⟨0, 0⟩) (by assumption) hbn; obtain ⟨y0, y1, z0, z1⟩ := RB.facts hz3) | (have hz3 := RB.next (N := _) (r := ⟨0, 0⟩) hzr2 hbn; obtain ⟨y0, y1, z0, z1⟩ := RB.facts hz3) | skip)))
      all_goals
        first
          | (show Exit.then _ _ _ _ (w3q.alloc (.cells #[.int .i64 0, .int .i64 0] 23))
             have hE : Below wS.heap.size wS (w3q.alloc (.cells #[.int .i64 0, .int .i64 0] 23)) ∧ RB (w3q.alloc (.cells #[.int .i64 0, .int .i64 0] 23)) w3q.heap.size ⟨0, 0⟩ := ⟨belt h3b _, RB.new w3q ⟨0, 0⟩⟩)
          | (show Exit.then _ _ _ _ ((w3q.setCell ⟨w2q.heap.size, 0, none⟩ (.int .i64 0)).setCell ⟨w2q.heap.size, 1, none⟩ (.int .i64 0))
             have hE := put_end2 h3b hz3 h2b.size 0 0)
          | (show Exit.then _ _ _ _ ((w3q.setCell ⟨wS.heap.size, 0, none⟩ (.int .i64 0)).setCell ⟨wS.heap.size, 1, none⟩ (.int .i64 0))
             have hE := put_end2 h3b hz3 (Nat.le_refl _) 0 0)
        have HEE := Lib.hid hE
        clear hE h3b
        go_wp2_with fail
        go_meet
        exact ⟨_, rfl, rfl, HEE⟩
    case rest =>
      obtain ⟨N7, rfl, rfl, HE⟩ := hcut
      have hE := HE.out
      generalize wc = w4 at *
      obtain ⟨hb4, hy4⟩ := hE
      have HB4 := Lib.hid (beln HB2.out hb4)
      have HX4 := Lib.hid (RB.next HXS.out hb4)
      have HY4 := Lib.hid hy4
      have HU4 := Lib.hid (GRow.next HUS.out hb4)
      obtain ⟨u0, u1, _, _⟩ := RB.facts HX4.out
      obtain ⟨u2, u3, _, _⟩ := RB.facts HY4.out
      clear hb4 hy4
      by_cases hkr : rn < k
      · have d1 : decide (rn < k) = true := decide_eq_true hkr
        go_wp2_with fail
        go_fit (HAW.out _ (HB4.out))
        rintro e w5 ⟨rfl, hb5⟩
        have HB5 := Lib.hid (beln HB4.out hb5)
        clear hb5
        go_wp2
        go_ret
        exact ⟨rfl, HB5.out⟩
      have hkr2 : k ≤ rn := by omega
      have d1 : decide (rn < k) = false := decide_eq_false hkr
      have HL0 : Hid (LowAt ⟨rb, rn⟩ k rb none) := Lib.hid ⟨base_mod HVR.out hk6 hkr2, by simp only; omega, by have := sz_pos ⟨rb, rn⟩; simp only at *; omega, fun x hx => by cases hx⟩
      have HKR2 := Lib.hid hkr2
      have HEN := Lib.hid fun W => rEnd_any ⟨rb, rn⟩ W
      rw [HVR.out.endR, show GR.sz ⟨rb, rn⟩ = pw rn from rfl] at HEN
      have HT2 : Hid (rb + pw rn ≤ 65536) := HTOP
      have HB0 : Hid (0 ≤ rb) := Lib.hid HVR.out.b0
      simp only [GR.val] at HEN
      have hsh : IntKind.i64.wrap (2 ^ k.toNat) = pw k := shl_one (by omega) (by omega)
      have hsh2 : wrap64 (2 ^ k.toNat) = pw k := shl_one64 (by omega) (by omega)
      have hcu : IntKind.u64.wrap k = k := by rw [IntKind.wrap_u64]; omega
      have hmin : min k.toNat 64 = k.toNat := by omega
      have hzp := pw_pos k
      have hzt : pw k ≤ 65536 := pw16 (by omega) hk16
      generalize hpk : pw k = z at *
      generalize hprn : pw rn = zr at *
      go_wp2
      clear d1 hkr u0 u1 u2 u3
      go_loopw [14] (fun v14 wr => ∃ bb : Int, v14 = .int .i64 bb ∧ Hid (LowAt ⟨rb, rn⟩ k bb none) ∧ Hid (Below w4.heap.size w4 wr)) (fun v14 _ => (rb + zr - intOf v14).toNat)
      case atStart => exact ⟨rb, rfl, HL0, Lib.hid (Below.refl _ _)⟩
      case round =>
        obtain ⟨bb, rfl, HL, HB⟩ := hrel
        have HXR := Lib.hid (RB.next HX4.out HB.out)
        obtain ⟨u0, u1, _, _⟩ := RB.facts HXR.out
        have hl1 : rb ≤ bb := HL.out.lo
        have hl2 : bb ≤ rb + zr := by have := HL.out.hi; rw [show GR.sz ⟨rb, rn⟩ = pw rn from rfl, hprn] at this; exact this
        have ht2 := HT2.out
        have hb0 := HB0.out
        have hwz : wrap64 (bb + z) = bb + z := IntWalk.wrap64_in _ (by clear hsh hsh2 hcu hmin; omega)
        go_wp2_with fail
        go_fit (HEN.out _)
        rintro e wE ⟨rfl, hbE⟩
        have HBE1 := Lib.hid hbE
        clear hbE
        by_cases hlt : bb < rb + zr
        · have dl : decide (bb < rb + zr) = true := decide_eq_true hlt
          have HED : Hid (Below wr.heap.size wr (wE.alloc (.cells #[.int .i64 bb, .int .i64 k] 23))) := Lib.hid (belt HBE1.out _)
          have HTD : Hid (RB (wE.alloc (.cells #[.int .i64 bb, .int .i64 k] 23)) wE.heap.size ⟨bb, k⟩) := Lib.hid (RB.new wE ⟨bb, k⟩)
          have HUD := Lib.hid (GRow.next (GRow.next HU4.out HB.out) HED.out)
          have HYD := Lib.hid (RB.next (RB.next HY4.out HB.out) HED.out)
          clear u0 u1
          go_wp2
          generalize (wE.alloc (.cells #[.int .i64 bb, .int .i64 k] 23)) = wD at *
          generalize wE.heap.size = N15 at *
          go_loopw [16, 17] (fun v13 v14 wr => ∃ q : Nat, v14 = .int .i64 q ∧ q ≤ us.length ∧ v13 = .bool ((us.take q).any (ovR ⟨bb, k⟩)) ∧ Hid (Below wD.heap.size wD wr)) (fun _ v14 _ => us.length - (intOf v14).toNat)
          case atStart => exact ⟨0, rfl, Nat.zero_le _, by simp, Lib.hid (Below.refl _ _)⟩
          case round =>
            obtain ⟨q, rfl, hq, rfl, HBK⟩ := hrel
            rcases Nat.lt_or_ge q us.length with hk2 | hk2
            · obtain ⟨b3, o3, rfl, hb3, _, _⟩ := (HUD.out.next HBK.out).rng hk2
              have HAS := Lib.hid (any_snoc (p := ovR ⟨bb, k⟩) hk2)
              have hS : Below wD.heap.size wD wr.drew ∧ RB wr.drew N15 ⟨bb, k⟩ ∧ GRow GR.cells 2 wr.drew wr.drew.heap.size (some ⟨b3, o3, none⟩) us := ⟨HBK.out.drew, RB.next (RB.next HTD.out HBK.out) (Below.refl _ wr).drew, GRow.next (GRow.next HUD.out HBK.out) (Below.refl _ wr).drew⟩
              have HOK := fun W => rOv_any ⟨bb, k⟩ us[q] W
              simp only [GR.val] at HOK
              generalize hh : (us.take q).any (ovR ⟨bb, k⟩) = hit at *
              generalize ovR ⟨bb, k⟩ us[q] = ov at *
              clear hh
              cases hit
              · go_upto_region 17 with fail
                refine wp_region_growS (S := fun W => Below wD.heap.size wD W ∧ RB W N15 ⟨bb, k⟩ ∧ GRow GR.cells 2 W W.heap.size (some ⟨b3, o3, none⟩) us) [(0, true), (1, true), (2, true), (3, true), (4, true), (5, true), (6, true), (7, false), (8, true), (9, true)] (by kernel_rfl) (by kernel_rfl) (by kernel_rfl) (by kernel_rfl) (by intro c a d v w h; cases d <;> exact h) hS ?_
                iterate 7
                  (first
                    | (refine wpGrowS_float (v := ?_) (by simp only [List.getElem?_toArray, List.getElem?_cons_succ, List.getElem?_cons_zero]; rfl) (by rfl) ?_ ?_
                       rotate_left
                       · (intro W hW; obtain ⟨f1a, f1b, _, _⟩ := RB.facts (hW.2.1); obtain ⟨q0, q1⟩ := (hW.2.2).rngAt hk2; go_simp; try with_reducible rfl)
                       simp only [Act.put, List.setIfInBounds_toArray, List.set_cons_zero, List.set_cons_succ])
                    | (refine wpGrowS_skip (by simp only [List.getElem?_toArray, List.getElem?_cons_succ, List.getElem?_cons_zero]; rfl) (by rfl) ?_
                       simp only [Act.put, List.setIfInBounds_toArray, List.set_cons_zero, List.set_cons_succ]))
                refine wpGrowS_call (by simp only [List.getElem?_toArray, List.getElem?_cons_succ, List.getElem?_cons_zero]; rfl) (by rfl) fun K hK => ?_
                go_simp
                go_fit (HOK _)
                rintro e wn ⟨rfl, hbn⟩
                have hSp := hS
                have hS : Below wD.heap.size wD wn ∧ RB wn N15 ⟨bb, k⟩ ∧ GRow GR.cells 2 wn wn.heap.size (some ⟨b3, o3, none⟩) us := ⟨beln (hS.1) hbn, RB.next (hS.2.1) hbn, GRow.next (hS.2.2) hbn⟩
                go_simp
                refine hK _ _ hS ?_
                clear hK K
                try simp only [Act.put, List.setIfInBounds_toArray, List.set_cons_zero, List.set_cons_succ]
                iterate 2
                  (first
                    | (refine wpGrowS_float (v := ?_) (by simp only [List.getElem?_toArray, List.getElem?_cons_succ, List.getElem?_cons_zero]; rfl) (by rfl) ?_ ?_
                       rotate_left
                       · (intro W hW; obtain ⟨f1a, f1b, _, _⟩ := RB.facts (hW.2.1); obtain ⟨q0, q1⟩ := (hW.2.2).rngAt hk2; go_simp; try with_reducible rfl)
                       simp only [Act.put, List.setIfInBounds_toArray, List.set_cons_zero, List.set_cons_succ])
                    | (refine wpGrowS_skip (by simp only [List.getElem?_toArray, List.getElem?_cons_succ, List.getElem?_cons_zero]; rfl) (by rfl) ?_
                       simp only [Act.put, List.setIfInBounds_toArray, List.set_cons_zero, List.set_cons_succ]))
                refine wpGrowS_nil ?_
                have HBE := Lib.hid hS.1
                clear hS hbn HOK
                go_wp2
                go_roundw
                case rel => exact ⟨q + 1, by go_num, by omega, by rw [HAS.out]; simp, HBE⟩
                case measure => simp [intOf]; omega
              · go_upto_region 17 with fail
                refine wp_region_growS (S := fun W => Below wD.heap.size wD W ∧ RB W N15 ⟨bb, k⟩ ∧ GRow GR.cells 2 W W.heap.size (some ⟨b3, o3, none⟩) us) [(0, true), (1, true), (2, true), (3, true), (4, true), (5, true), (6, true), (7, false), (8, true), (9, true)] (by kernel_rfl) (by kernel_rfl) (by kernel_rfl) (by kernel_rfl) (by intro c a d v w h; cases d <;> exact h) hS ?_
                iterate 7
                  (first
                    | (refine wpGrowS_float (v := ?_) (by simp only [List.getElem?_toArray, List.getElem?_cons_succ, List.getElem?_cons_zero]; rfl) (by rfl) ?_ ?_
                       rotate_left
                       · (intro W hW; obtain ⟨f1a, f1b, _, _⟩ := RB.facts (hW.2.1); obtain ⟨q0, q1⟩ := (hW.2.2).rngAt hk2; go_simp; try with_reducible rfl)
                       simp only [Act.put, List.setIfInBounds_toArray, List.set_cons_zero, List.set_cons_succ])
                    | (refine wpGrowS_skip (by simp only [List.getElem?_toArray, List.getElem?_cons_succ, List.getElem?_cons_zero]; rfl) (by rfl) ?_
                       simp only [Act.put, List.setIfInBounds_toArray, List.set_cons_zero, List.set_cons_succ]))
                refine wpGrowS_pass hS (by simp only [List.getElem?_toArray, List.getElem?_cons_succ, List.getElem?_cons_zero]; rfl) (by rfl) ?_
                try simp only [Act.put, List.setIfInBounds_toArray, List.set_cons_zero, List.set_cons_succ]
                iterate 2
                  (first
                    | (refine wpGrowS_float (v := ?_) (by simp only [List.getElem?_toArray, List.getElem?_cons_succ, List.getElem?_cons_zero]; rfl) (by rfl) ?_ ?_
                       rotate_left
                       · (intro W hW; obtain ⟨f1a, f1b, _, _⟩ := RB.facts (hW.2.1); obtain ⟨q0, q1⟩ := (hW.2.2).rngAt hk2; go_simp; try with_reducible rfl)
                       simp only [Act.put, List.setIfInBounds_toArray, List.set_cons_zero, List.set_cons_succ])
                    | (refine wpGrowS_skip (by simp only [List.getElem?_toArray, List.getElem?_cons_succ, List.getElem?_cons_zero]; rfl) (by rfl) ?_
                       simp only [Act.put, List.setIfInBounds_toArray, List.set_cons_zero, List.set_cons_succ]))
                refine wpGrowS_nil ?_
                have HBE := Lib.hid hS.1
                clear hS HOK
                go_wp2
                go_roundw
                case rel => exact ⟨q + 1, by go_num, by omega, by rw [HAS.out]; simp, HBE⟩
                case measure => simp [intOf]; omega
            · obtain rfl : q = us.length := by omega
              have HBE := Lib.hid (beln (beln HB.out HED.out) HBK.out)
              rw [List.take_of_length_le (Nat.le_refl _)]
              have HN2 := Lib.hid (HNX.out bb HKR2.out HL.out (by rw [show GR.sz ⟨rb, rn⟩ = pw rn from rfl, hprn]; exact hlt) (fun x hx => by cases hx))
              have h1 := HN2.out.2
              rw [h1]
              go_wp2
              go_roundw
              case rel => exact ⟨bb + z, rfl, Lib.hid HN2.out.1, HBE⟩
              case measure => simp [intOf]; omega
        · have dl : decide (bb < rb + zr) = false := decide_eq_false hlt
          have HBF := Lib.hid (beln (beln HB4.out HB.out) HBE1.out)
          go_wp2_with fail
          go_fit (HAW.out _ (HBF.out))
          rintro e w9 ⟨rfl, hb9⟩
          have HB9 := Lib.hid (beln HBF.out hb9)
          clear hb9
          go_wp2
          go_ret
          exact ⟨rfl, HB9.out⟩
  · have HFX := Lib.hid (HFS.out _ rfl)
    obtain rfl : xn = k := HFX.out.bits
    have HKR := Lib.hid (show xn ≤ rn from con_bits HFX.out.con)
    have HCX := Lib.hid fun W => rCon_any ⟨rb, rn⟩ ⟨xb, xn⟩ W
    rw [HFX.out.con] at HCX
    simp only [optV, GR.val] at HPF HCX
    go_upto_region 4 with fail
    go_cut [12, 13] (fun vx vo wx => ∃ N7 : Nat, vx = .pointer (some ⟨N7, 0, none⟩) ∧ vo = .bool true ∧ Hid (Below wS.heap.size wS wx ∧ RB wx N7 ⟨xb, xn⟩))
    case first =>
      have hd : Below wS.heap.size wS wS.drew := (Below.refl _ wS).drew
      have h1x := RB.next HXS.out hd
      have h1u := GRow.next HUS.out hd
      have hz1 : Below wS.heap.size wS (wS.alloc (.cells #[.int .i64 0, .int .i64 0] 23)).drew := ((Below.refl _ _).alloc (Nat.le_refl _) _).drew
      have h1zx := RB.next HXS.out hz1
      have h1zu := GRow.next HUS.out hz1
      have h1zy := RB.next HXS.out ((Below.refl _ _).alloc (Nat.le_refl _) (.cells #[.int .i64 0, .int .i64 0] 23))
      have hN0 : w1.heap.size < wS.heap.size := RB.lt HXS.out
      obtain ⟨k0, k1, _, _⟩ := RB.facts h1zy
      have hzr : RB (wS.alloc (.cells #[.int .i64 0, .int .i64 0] 23)).drew wS.heap.size ⟨0, 0⟩ := RB.new wS ⟨0, 0⟩
      obtain ⟨f0, f1, _, _⟩ := RB.facts h1x
      obtain ⟨g0, g1, _, _⟩ := RB.facts h1zx
      go_region_law
        (first
          | (go_simp; go_at_call 28; go_fit (HCP.out A1 c1 _ h1u); rintro e w2q ⟨v1, rfl, ho1, hbn⟩; obtain ⟨A5, c5, rfl, hc5, hm5, hr1⟩ := ho1.row GR.len; have h2b := beln hd hbn; have h2x := RB.next h1x hbn; have hz2 : Below w2q.heap.size w2q (w2q.alloc (.cells #[.int .i64 0, .int .i64 0] 23)) := (Below.refl _ _).alloc (Nat.le_refl _) _; have hzr2 := RB.new w2q ⟨0, 0⟩; have hr1z := GRow.next hr1 hz2; have h2zb := beln h2b hz2; have h2zx := RB.next h2x hz2; obtain ⟨p0, p1, _, _⟩ := RB.facts h2x; obtain ⟨p2, p3, _, _⟩ := RB.facts h2zx)
          | (go_simp; go_at_call 28; go_fit (HCP.out A1 c1 _ h1zu); rintro e w2q ⟨v1, rfl, ho1, hbn⟩; obtain ⟨A5, c5, rfl, hc5, hm5, hr1⟩ := ho1.row GR.len; have h2b := beln hz1 hbn; have h2x := RB.next h1zx hbn; have hzr2 := RB.next hzr hbn; obtain ⟨p0, p1, _, _⟩ := RB.facts h2x)
          | (go_simp; go_at_call 30; go_fit (HPF.out _ _ _ (by assumption) (beln HB2.out (by assumption))); rintro e w3q ⟨rfl, hbn⟩; have h3b := beln (w := wS) (by assumption) hbn; (first | (have hz3 := RB.next (N := wS.heap.size) (r := ⟨0, 0⟩) (by assumption) hbn; obtain ⟨y0, y1, z0, z1⟩ := RB.facts hz3) | (have hz3 := RB.next (N := _) (r := ⟨0, 0⟩) hzr2 hbn; obtain ⟨y0, y1, z0, z1⟩ := RB.facts hz3) | skip)))
      all_goals
        first
          | (show Exit.then _ _ _ _ (w3q.alloc (.cells #[.int .i64 xb, .int .i64 xn] 23))
             have hE : Below wS.heap.size wS (w3q.alloc (.cells #[.int .i64 xb, .int .i64 xn] 23)) ∧ RB (w3q.alloc (.cells #[.int .i64 xb, .int .i64 xn] 23)) w3q.heap.size ⟨xb, xn⟩ := ⟨belt h3b _, RB.new w3q ⟨xb, xn⟩⟩)
          | (show Exit.then _ _ _ _ ((w3q.setCell ⟨w2q.heap.size, 0, none⟩ (.int .i64 xb)).setCell ⟨w2q.heap.size, 1, none⟩ (.int .i64 xn))
             have hE := put_end2 h3b hz3 h2b.size xb xn)
          | (show Exit.then _ _ _ _ ((w3q.setCell ⟨wS.heap.size, 0, none⟩ (.int .i64 xb)).setCell ⟨wS.heap.size, 1, none⟩ (.int .i64 xn))
             have hE := put_end2 h3b hz3 (Nat.le_refl _) xb xn)
        have HEE := Lib.hid hE
        clear hE h3b
        go_wp2_with fail
        go_meet
        exact ⟨_, rfl, rfl, HEE⟩
    case rest =>
      obtain ⟨N7, rfl, rfl, HE⟩ := hcut
      have hE := HE.out
      generalize wc = w4 at *
      obtain ⟨hb4, hy4⟩ := hE
      have HB4 := Lib.hid (beln HB2.out hb4)
      have HX4 := Lib.hid (RB.next HXS.out hb4)
      have HY4 := Lib.hid hy4
      have HU4 := Lib.hid (GRow.next HUS.out hb4)
      obtain ⟨u0, u1, _, _⟩ := RB.facts HX4.out
      obtain ⟨u2, u3, _, _⟩ := RB.facts HY4.out
      clear hb4 hy4
      have hkr2 : xn ≤ rn := HKR.out
      have hkr : ¬ rn < xn := by omega
      have d1 : decide (rn < xn) = false := decide_eq_false hkr
      go_wp2_with fail
      go_fit (HCX.out _)
      rintro e w5 ⟨rfl, hb5⟩
      have HB5 := Lib.hid (beln HB4.out hb5)
      have HX5 := Lib.hid (RB.next HX4.out hb5)
      have HY5 := Lib.hid (RB.next HY4.out hb5)
      have HU5 := Lib.hid (GRow.next HU4.out hb5)
      obtain ⟨u4, u5, _, _⟩ := RB.facts HX5.out
      clear hb5 HB4 HX4 HY4 HU4
      generalize w5 = w4 at *
      have HB4 := HB5
      have HX4 := HX5
      have HY4 := HY5
      have HU4 := HU5
      have HL0 : Hid (LowAt ⟨rb, rn⟩ xn rb (some ⟨xb, xn⟩)) := Lib.hid ⟨base_mod HVR.out hk6 hkr2, by simp only; omega, by have := sz_pos ⟨rb, rn⟩; simp only at *; omega, fun x hx => by cases hx; exact (con_iff.1 HFX.out.con).2.2.1⟩
      have HKR2 := Lib.hid hkr2
      have HEN := Lib.hid fun W => rEnd_any ⟨rb, rn⟩ W
      rw [HVR.out.endR, show GR.sz ⟨rb, rn⟩ = pw rn from rfl] at HEN
      have HT2 : Hid (rb + pw rn ≤ 65536) := HTOP
      have HB0 : Hid (0 ≤ rb) := Lib.hid HVR.out.b0
      simp only [GR.val] at HEN
      have hsh : IntKind.i64.wrap (2 ^ xn.toNat) = pw xn := shl_one (by omega) (by omega)
      have hsh2 : wrap64 (2 ^ xn.toNat) = pw xn := shl_one64 (by omega) (by omega)
      have hcu : IntKind.u64.wrap xn = xn := by rw [IntKind.wrap_u64]; omega
      have hmin : min xn.toNat 64 = xn.toNat := by omega
      have hzp := pw_pos xn
      have hzt : pw xn ≤ 65536 := pw16 (by omega) hk16
      generalize hpk : pw xn = z at *
      generalize hprn : pw rn = zr at *
      go_wp2
      clear d1 hkr u0 u1 u2 u3 u4 u5
      go_loopw [14] (fun v14 wr => ∃ bb : Int, v14 = .int .i64 bb ∧ Hid (LowAt ⟨rb, rn⟩ xn bb (some ⟨xb, xn⟩)) ∧ Hid (Below w4.heap.size w4 wr)) (fun v14 _ => (rb + zr - intOf v14).toNat)
      case atStart => exact ⟨rb, rfl, HL0, Lib.hid (Below.refl _ _)⟩
      case round =>
        obtain ⟨bb, rfl, HL, HB⟩ := hrel
        have HXR := Lib.hid (RB.next HX4.out HB.out)
        obtain ⟨u0, u1, _, _⟩ := RB.facts HXR.out
        have hl1 : rb ≤ bb := HL.out.lo
        have hl2 : bb ≤ rb + zr := by have := HL.out.hi; rw [show GR.sz ⟨rb, rn⟩ = pw rn from rfl, hprn] at this; exact this
        have ht2 := HT2.out
        have hb0 := HB0.out
        have hwz : wrap64 (bb + z) = bb + z := IntWalk.wrap64_in _ (by clear hsh hsh2 hcu hmin; omega)
        go_wp2_with fail
        go_fit (HEN.out _)
        rintro e wE ⟨rfl, hbE⟩
        have HBE1 := Lib.hid hbE
        clear hbE
        by_cases hlt : bb < rb + zr
        · have dl : decide (bb < rb + zr) = true := decide_eq_true hlt
          have HED : Hid (Below wr.heap.size wr (wE.alloc (.cells #[.int .i64 bb, .int .i64 xn] 23))) := Lib.hid (belt HBE1.out _)
          have HTD : Hid (RB (wE.alloc (.cells #[.int .i64 bb, .int .i64 xn] 23)) wE.heap.size ⟨bb, xn⟩) := Lib.hid (RB.new wE ⟨bb, xn⟩)
          have HUD := Lib.hid (GRow.next (GRow.next HU4.out HB.out) HED.out)
          have HYD := Lib.hid (RB.next (RB.next HY4.out HB.out) HED.out)
          clear u0 u1
          go_wp2
          generalize (wE.alloc (.cells #[.int .i64 bb, .int .i64 xn] 23)) = wD at *
          generalize wE.heap.size = N15 at *
          go_loopw [16, 17] (fun v13 v14 wr => ∃ q : Nat, v14 = .int .i64 q ∧ q ≤ us.length ∧ v13 = .bool ((us.take q).any (ovR ⟨bb, xn⟩)) ∧ Hid (Below wD.heap.size wD wr)) (fun _ v14 _ => us.length - (intOf v14).toNat)
          case atStart => exact ⟨0, rfl, Nat.zero_le _, by simp, Lib.hid (Below.refl _ _)⟩
          case round =>
            obtain ⟨q, rfl, hq, rfl, HBK⟩ := hrel
            rcases Nat.lt_or_ge q us.length with hk2 | hk2
            · obtain ⟨b3, o3, rfl, hb3, _, _⟩ := (HUD.out.next HBK.out).rng hk2
              have HAS := Lib.hid (any_snoc (p := ovR ⟨bb, xn⟩) hk2)
              have hS : Below wD.heap.size wD wr.drew ∧ RB wr.drew N15 ⟨bb, xn⟩ ∧ GRow GR.cells 2 wr.drew wr.drew.heap.size (some ⟨b3, o3, none⟩) us := ⟨HBK.out.drew, RB.next (RB.next HTD.out HBK.out) (Below.refl _ wr).drew, GRow.next (GRow.next HUD.out HBK.out) (Below.refl _ wr).drew⟩
              have HOK := fun W => rOv_any ⟨bb, xn⟩ us[q] W
              simp only [GR.val] at HOK
              generalize hh : (us.take q).any (ovR ⟨bb, xn⟩) = hit at *
              generalize ovR ⟨bb, xn⟩ us[q] = ov at *
              clear hh
              cases hit
              · go_upto_region 17 with fail
                refine wp_region_growS (S := fun W => Below wD.heap.size wD W ∧ RB W N15 ⟨bb, xn⟩ ∧ GRow GR.cells 2 W W.heap.size (some ⟨b3, o3, none⟩) us) [(0, true), (1, true), (2, true), (3, true), (4, true), (5, true), (6, true), (7, false), (8, true), (9, true)] (by kernel_rfl) (by kernel_rfl) (by kernel_rfl) (by kernel_rfl) (by intro c a d v w h; cases d <;> exact h) hS ?_
                iterate 7
                  (first
                    | (refine wpGrowS_float (v := ?_) (by simp only [List.getElem?_toArray, List.getElem?_cons_succ, List.getElem?_cons_zero]; rfl) (by rfl) ?_ ?_
                       rotate_left
                       · (intro W hW; obtain ⟨f1a, f1b, _, _⟩ := RB.facts (hW.2.1); obtain ⟨q0, q1⟩ := (hW.2.2).rngAt hk2; go_simp; try with_reducible rfl)
                       simp only [Act.put, List.setIfInBounds_toArray, List.set_cons_zero, List.set_cons_succ])
                    | (refine wpGrowS_skip (by simp only [List.getElem?_toArray, List.getElem?_cons_succ, List.getElem?_cons_zero]; rfl) (by rfl) ?_
                       simp only [Act.put, List.setIfInBounds_toArray, List.set_cons_zero, List.set_cons_succ]))
                refine wpGrowS_call (by simp only [List.getElem?_toArray, List.getElem?_cons_succ, List.getElem?_cons_zero]; rfl) (by rfl) fun K hK => ?_
                go_simp
                go_fit (HOK _)
                rintro e wn ⟨rfl, hbn⟩
                have hSp := hS
                have hS : Below wD.heap.size wD wn ∧ RB wn N15 ⟨bb, xn⟩ ∧ GRow GR.cells 2 wn wn.heap.size (some ⟨b3, o3, none⟩) us := ⟨beln (hS.1) hbn, RB.next (hS.2.1) hbn, GRow.next (hS.2.2) hbn⟩
                go_simp
                refine hK _ _ hS ?_
                clear hK K
                try simp only [Act.put, List.setIfInBounds_toArray, List.set_cons_zero, List.set_cons_succ]
                iterate 2
                  (first
                    | (refine wpGrowS_float (v := ?_) (by simp only [List.getElem?_toArray, List.getElem?_cons_succ, List.getElem?_cons_zero]; rfl) (by rfl) ?_ ?_
                       rotate_left
                       · (intro W hW; obtain ⟨f1a, f1b, _, _⟩ := RB.facts (hW.2.1); obtain ⟨q0, q1⟩ := (hW.2.2).rngAt hk2; go_simp; try with_reducible rfl)
                       simp only [Act.put, List.setIfInBounds_toArray, List.set_cons_zero, List.set_cons_succ])
                    | (refine wpGrowS_skip (by simp only [List.getElem?_toArray, List.getElem?_cons_succ, List.getElem?_cons_zero]; rfl) (by rfl) ?_
                       simp only [Act.put, List.setIfInBounds_toArray, List.set_cons_zero, List.set_cons_succ]))
                refine wpGrowS_nil ?_
                have HBE := Lib.hid hS.1
                clear hS hbn HOK
                go_wp2
                go_roundw
                case rel => exact ⟨q + 1, by go_num, by omega, by rw [HAS.out]; simp, HBE⟩
                case measure => simp [intOf]; omega
              · go_upto_region 17 with fail
                refine wp_region_growS (S := fun W => Below wD.heap.size wD W ∧ RB W N15 ⟨bb, xn⟩ ∧ GRow GR.cells 2 W W.heap.size (some ⟨b3, o3, none⟩) us) [(0, true), (1, true), (2, true), (3, true), (4, true), (5, true), (6, true), (7, false), (8, true), (9, true)] (by kernel_rfl) (by kernel_rfl) (by kernel_rfl) (by kernel_rfl) (by intro c a d v w h; cases d <;> exact h) hS ?_
                iterate 7
                  (first
                    | (refine wpGrowS_float (v := ?_) (by simp only [List.getElem?_toArray, List.getElem?_cons_succ, List.getElem?_cons_zero]; rfl) (by rfl) ?_ ?_
                       rotate_left
                       · (intro W hW; obtain ⟨f1a, f1b, _, _⟩ := RB.facts (hW.2.1); obtain ⟨q0, q1⟩ := (hW.2.2).rngAt hk2; go_simp; try with_reducible rfl)
                       simp only [Act.put, List.setIfInBounds_toArray, List.set_cons_zero, List.set_cons_succ])
                    | (refine wpGrowS_skip (by simp only [List.getElem?_toArray, List.getElem?_cons_succ, List.getElem?_cons_zero]; rfl) (by rfl) ?_
                       simp only [Act.put, List.setIfInBounds_toArray, List.set_cons_zero, List.set_cons_succ]))
                refine wpGrowS_pass hS (by simp only [List.getElem?_toArray, List.getElem?_cons_succ, List.getElem?_cons_zero]; rfl) (by rfl) ?_
                try simp only [Act.put, List.setIfInBounds_toArray, List.set_cons_zero, List.set_cons_succ]
                iterate 2
                  (first
                    | (refine wpGrowS_float (v := ?_) (by simp only [List.getElem?_toArray, List.getElem?_cons_succ, List.getElem?_cons_zero]; rfl) (by rfl) ?_ ?_
                       rotate_left
                       · (intro W hW; obtain ⟨f1a, f1b, _, _⟩ := RB.facts (hW.2.1); obtain ⟨q0, q1⟩ := (hW.2.2).rngAt hk2; go_simp; try with_reducible rfl)
                       simp only [Act.put, List.setIfInBounds_toArray, List.set_cons_zero, List.set_cons_succ])
                    | (refine wpGrowS_skip (by simp only [List.getElem?_toArray, List.getElem?_cons_succ, List.getElem?_cons_zero]; rfl) (by rfl) ?_
                       simp only [Act.put, List.setIfInBounds_toArray, List.set_cons_zero, List.set_cons_succ]))
                refine wpGrowS_nil ?_
                have HBE := Lib.hid hS.1
                clear hS HOK
                go_wp2
                go_roundw
                case rel => exact ⟨q + 1, by go_num, by omega, by rw [HAS.out]; simp, HBE⟩
                case measure => simp [intOf]; omega
            · obtain rfl : q = us.length := by omega
              have HBE := Lib.hid (beln (beln HB.out HED.out) HBK.out)
              rw [List.take_of_length_le (Nat.le_refl _)]
              obtain ⟨t0, t1, _, _⟩ := RB.facts (RB.next HTD.out HBK.out)
              obtain ⟨t2, t3, _, _⟩ := RB.facts (RB.next HYD.out HBK.out)
              by_cases hbx : bb = xb
              · subst hbx
                have hclr : us.any (ovR ⟨bb, xn⟩) = false := by
                  rw [List.any_eq_false]
                  intro u hu
                  rw [HFX.out.clr u hu]; simp
                rw [hclr]
                go_wp2_with fail
                go_fit (HAW.out _ (beln HB4.out HBE.out))
                rintro e w9 ⟨rfl, hb9⟩
                have HB9 := Lib.hid (beln (beln HB4.out HBE.out) hb9)
                clear hb9
                go_wp2
                go_ret
                exact ⟨rfl, HB9.out⟩
              · have HN2 := Lib.hid (HNX.out bb HKR2.out HL.out (by rw [show GR.sz ⟨rb, rn⟩ = pw rn from rfl, hprn]; exact hlt) (fun x hx => by cases hx; intro e; injection e with e1 _; exact hbx e1.symm))
                have h1 := HN2.out.2
                rw [h1]
                go_wp2
                go_roundw
                case rel => exact ⟨bb + z, rfl, Lib.hid HN2.out.1, HBE⟩
                case measure => simp [intOf]; omega
        · exfalso
          have h1 := HL.out.bef _ rfl
          have h2 := (con_iff.1 HFX.out.con).2.2.2
          simp only [GR.sz] at h1 h2
          rw [hpk, hprn] at h2
          omega
end Go.Proofs.YtlndafkmihdbmaaDoor
