/-
  The law CapRetypePlaces returns true.
  Conditions: none.
-/
import Derived.Test.YtpjakfbjiioflaaLcj
import Derived.Deep.CutBlock
import Derived.Deep.DeepCutAuto
namespace Go.Proofs.Ytpjakfbjiioflaa
open Go.RowKit

theorem CB.setRights {W : World} {N : Nat} {c : GC} (h : CB W N c) (x : Int) : CB (W.setCell ⟨N, 3, none⟩ (.int .i64 x)) N { c with rights := x } := by
  unfold CB at *
  rw [Joins.block_setCell h]
  rfl
set_option maxRecDepth 20000 in
set_option maxHeartbeats 2000000 in
theorem lcpl (ba bi ki si ix ct ri : Int) (w : World) : Calls Try.prog 7 #[.int .i64 ba, .int .i64 bi, .int .i64 ki, .int .i64 si, .int .i64 ix, .int .i64 ct, .int .i64 ri] w fun e w' => e = .returned (.bool true) ∧ Below w.heap.size w w' := by
  have HA := Lib.hid fun W => awake11 W
  have HM := Lib.hid (mUnt_any ba bi w)
  have HP1 := Lib.hid fun W => mPlace_any ri 8 (by omega) (by omega) W
  have HP2 := Lib.hid fun W => mPlace_any ki 6 (by omega) (by omega) W
  have HP3 := Lib.hid fun W => mPlace_any si 11 (by omega) (by omega) W
  have HP4 := Lib.hid fun W => mPlace_any ct 8 (by omega) (by omega) W
  have HP5 := Lib.hid fun W => mPlace_any ix 64 (by omega) (by omega) W
  go_enter Try.func7, Try.ntmps7
  go_wp2_with fail
  go_fit HM.out
  rintro e w1 ⟨⟨b, n⟩, hv, hn16, htop, rfl, hb1⟩
  simp only at hn16
  simp only [GC.val]
  have HV := Lib.hid hv
  have HX := Lib.hid (CB.new w1 ⟨1, b, n, 7, 0, 0, false⟩)
  have HB := Lib.hid (belt hb1 (.cells #[.int .i64 1, .int .i64 b, .int .i64 n, .int .i64 7, .int .i64 0, .int .i64 0, .bool false] 23))
  have HW : Hid (w.heap.size ≤ w1.heap.size) := Lib.hid hb1.size
  simp only at HX
  clear hv hb1 HM htop
  go_upto_region 2 with fail
  generalize w1.heap.size = N at *
  generalize w1.alloc (.cells #[.int .i64 1, .int .i64 b, .int .i64 n, .int .i64 7, .int .i64 0, .int .i64 0, .bool false] 23) = w2 at *
  obtain ⟨y0, y1, y2, y3, y4, y5, y6⟩ := HX.out.cells
  have zf := HX.out.frz 3
  simp only at y0 y1 y2 y3 y4 y5 y6
  go_wp2_with fail
  go_fit (HP1.out _)
  rintro e w3 ⟨p, p0, p1, rfl, rfl⟩
  have hpr := pl_rights ⟨p.toNat, by omega⟩
  simp only at hpr
  rw [Int.toNat_of_nonneg p0] at hpr
  obtain ⟨hr2, hr0, hr7⟩ := hpr
  have HR2 := Lib.hid hr2
  have HX3 := Lib.hid (HX.out.setRights (bits .or .i64 p 2))
  have HB3 := Lib.hid (HB.out.setCell (p := ⟨N, 3, none⟩) HW.out (.int .i64 (bits .or .i64 p 2)))
  simp only at HX3
  clear hr2 HP1 HX HB HW
  go_upto_region 3 with fail
  clear y0 y1 y2 y3 y4 y5 y6 zf
  generalize bits .or .i64 p 2 = r at *
  generalize w2.setCell ⟨N, 3, none⟩ (.int .i64 r) = w4 at *
  go_wp2_with fail
  go_fit (HP2.out _)
  rintro e w5 ⟨a, a0, a1, rfl, rfl⟩
  go_upto_region 4 with fail
  go_cut [17] (fun vk wx => ∃ s : Int, 0 ≤ s ∧ s < 11 ∧ vk = .int .i64 (plK a s) ∧ wx = w4.alloc (.cells #[.int .i64 (6 + s), .int .i64 12, .int .i64 12, .int .i64 6, .int .i64 10, .int .i64 16] 3))
  case first =>
    go_wp2_with fail
    go_fit (HP3.out _)
    rintro e w6 ⟨s, s0, s1, rfl, rfl⟩
    have hcase : a = 0 ∨ a = 1 ∨ a = 2 ∨ a = 3 ∨ a = 4 ∨ a = 5 := by omega
    rcases hcase with rfl | rfl | rfl | rfl | rfl | rfl
    all_goals (go_wp2_with fail; go_meet; exact ⟨s, s0, s1, rfl, rfl⟩)
  case rest =>
    obtain ⟨s, s0, s1, rfl, rfl⟩ := hcut
    obtain ⟨hk, hk6, hk16⟩ := plK_ok (a := a) (s := s) ⟨a0, a1⟩ ⟨s0, s1⟩
    generalize plK a s = k at *
    have ho1 : (1 + a = 1 ↔ a = 0) := by omega
    generalize ho : 1 + a = o at *
    have HO := Lib.hid ho
    have HOA := Lib.hid (show 1 ≤ o ∧ o ≤ 6 by omega)
    have HX4 := Lib.hid (HX3.out.next (belt (Below.refl _ w4) (.cells #[.int .i64 (6 + s), .int .i64 12, .int .i64 12, .int .i64 6, .int .i64 10, .int .i64 16] 3)))
    have HB4 := Lib.hid (belt HB3.out (.cells #[.int .i64 (6 + s), .int .i64 12, .int .i64 12, .int .i64 6, .int .i64 10, .int .i64 16] 3))
    clear ho ho1 HX3 HB3 HP2 HP3
    generalize w4.alloc (.cells #[.int .i64 (6 + s), .int .i64 12, .int .i64 12, .int .i64 6, .int .i64 10, .int .i64 16] 3) = w5 at *
    go_wp2_with fail
    go_fit (HP4.out _)
    rintro e w6 ⟨p5, p50, p51, rfl, hww⟩
    obtain rfl : w5 = w6 := hww
    clear HP4
    have hw5 : IntKind.i64.wrap (1 + p5) = 1 + p5 := IntWalk.i64_in _ (by omega)
    go_upto_region 6 with fail
    obtain ⟨cnt, hcnt⟩ : ∃ cnt : Nat, (cnt : Int) = 1 + p5 := ⟨(1 + p5).toNat, by omega⟩
    rw [← hcnt]
    have hc1 : 1 ≤ cnt := by omega
    have hc8 : cnt ≤ 8 := by omega
    clear hw5 hcnt p50 p51
    go_wp2_with fail
    go_fit (HP5.out _)
    rintro e w6 ⟨p6, p60, p61, rfl, hww⟩
    obtain rfl : w5 = w6 := hww
    clear HP5
    have hpk := pw_pos k
    have hpk16 : pw k ≤ 65536 := by have := pw_le (m := k) (n := 16) (by omega) (by omega); have e16 : pw 16 = 65536 := by decide
                                    omega
    have hat0 : 0 ≤ p6 * pw k := Int.mul_nonneg (by omega) (by omega)
    have hat1 : p6 * pw k ≤ 63 * pw k := Int.mul_le_mul_of_nonneg_right (by omega) (by omega)
    have hat2 : (p6 * pw k) % pw k = 0 := Int.mul_emod_left _ _
    have hcz0 : 0 ≤ (cnt : Int) * pw k := Int.mul_nonneg (by omega) (by omega)
    have hcz1 : (cnt : Int) * pw k ≤ 8 * pw k := Int.mul_le_mul_of_nonneg_right (by omega) (by omega)
    have hcv : IntKind.u64.wrap k = k := by rw [IntKind.wrap_u64]; omega
    have HSH : Hid (wrap64 (p6 * 2 ^ k.toNat) = p6 * pw k) := Lib.hid (shl_p hat0 (by omega))
    have HSC : Hid (wrap64 ((cnt : Int) * 2 ^ k.toNat) = (cnt : Int) * pw k) := Lib.hid (shl_p hcz0 (by omega))
    go_upto_region 7 with fail
    rw [HSH.out]
    clear HSH
    have hVB := HV.out
    have HRE := Lib.hid (fun W => pRet_any ⟨1, b, n, r, 0, 0, false⟩ o k 1 39 (p6 * pw k) cnt W)
    have HPE := Lib.hid (pl_err (cnt := (cnt : Int)) hVB ⟨hr0, hr7⟩ HR2.out hk (by omega) hat0 hat2)
    have HPO := Lib.hid fun (hf : p6 * pw k + (cnt : Int) * pw k ≤ pw n) (i : Nat) (hi : (i : Int) < cnt) => pl_one hVB hn16 ⟨hr0, hr7⟩ hk hk6 hat0 hat2 hf i hi
    have HPL := Lib.hid (pl_list (b := b) (n := n) (r := r) (o := o) (k := k) (at_ := p6 * pw k) (cnt := (cnt : Int)))
    have HLE : Hid (retErr ⟨1, b, n, r, 0, 0, false⟩ o k 1 39 (p6 * pw k) cnt ≠ 0 → retL ⟨1, b, n, r, 0, 0, false⟩ o k 1 39 (p6 * pw k) cnt = []) := Lib.hid fun h => by unfold retL; rw [if_neg h]
    generalize retErr ⟨1, b, n, r, 0, 0, false⟩ o k 1 39 (p6 * pw k) cnt = q at *
    generalize retL ⟨1, b, n, r, 0, 0, false⟩ o k 1 39 (p6 * pw k) cnt = l at *
    have hn6 : 6 ≤ n := hVB.lo
    have hpn := pw_pos n
    have hpn16 : pw n ≤ 65536 := by have := pw_le (m := n) (n := 16) (by omega) (by omega); have e16 : pw 16 = 65536 := by decide
                                    omega
    have htop2 : 0 ≤ b ∧ b ≤ 1099511627776 := ⟨hVB.b0, by have := hVB.top; have : 0 < GR.sz ⟨b, n⟩ := pw_pos _; simp only at *; omega⟩
    have hcn : IntKind.u64.wrap n = n := by rw [IntKind.wrap_u64]; omega
    have HSN : Hid (IntKind.i64.wrap (2 ^ n.toNat) = pw n) := Lib.hid (shl_one (by omega) (by omega))
    clear hVB
    generalize hatE : p6 * pw k = at_ at *
    generalize hczE : (cnt : Int) * pw k = cz at *
    obtain ⟨y0, y1, y2, y3, y4, y5, y6⟩ := HX4.out.cells
    simp only at y0 y1 y2 y3 y4 y5 y6
    simp only [GC.val] at HRE
    go_wp2_with fail
    go_fit (HRE.out _)
    rintro e w7 ⟨v7, rfl, ho7, hb7⟩
    obtain ⟨A7, c7, rfl, _, _, hr7'⟩ := ho7.row GC.len
    have HX7 := Lib.hid (HX4.out.next hb7)
    have HB7 := Lib.hid (beln HB4.out hb7)
    have HRW := Lib.hid hr7'
    clear hb7 ho7 hr7' HX4 HB4 HRE y0 y1 y2 y3 y4 y5 y6
    obtain ⟨y0, y1, y2, y3, y4, y5, y6⟩ := HX7.out.cells
    simp only at y0 y1 y2 y3 y4 y5 y6
    go_upto_region 8 with fail
    have HFIT : Hid (q = if (decide (at_ + cz ≤ pw n) && !(decide (o = 1) && decide (n ≤ k))) = true then 0 else 6) := Lib.hid (by
      rw [HPE.out]
      congr 1
      simp only [Bool.and_eq_true, decide_eq_true_eq, Bool.not_eq_true', Bool.and_eq_false_iff, decide_eq_false_iff_not, eq_iff_iff]
      constructor
      · rintro ⟨h1, h2⟩
        exact ⟨h1, by
          by_cases ho1 : o = 1
          · exact .inr fun hh => h2 ⟨ho1, hh⟩
          · exact .inl ho1⟩
      · rintro ⟨h1, h2⟩
        exact ⟨h1, fun hh => h2.elim (fun h => h hh.1) (fun h => h hh.2)⟩)
    clear HPE
    have HFF : Hid ((decide (at_ + cz ≤ pw n) && !(decide (o = 1) && decide (n ≤ k))) = true → at_ + cz ≤ pw n) := Lib.hid fun h => by
      rw [Bool.and_eq_true] at h
      exact of_decide_eq_true h.1
    obtain ⟨fits, hfits⟩ : ∃ fits : Bool, (decide (at_ + cz ≤ pw n) && !(decide (o = 1) && decide (n ≤ k))) = fits := ⟨_, rfl⟩
    rw [hfits] at HFIT HFF
    go_cut [22] (fun v22 wx => v22 = .bool fits ∧ wx = w7)
    case first =>
      have hsum : IntKind.i64.wrap (at_ + cz) = at_ + cz := IntWalk.i64_in _ (by omega)
      have hsc := HSC.out
      have hsn := HSN.out
      subst hfits
      generalize pw n = pn at *
      by_cases h1 : at_ + cz ≤ pn
      · have f1 : decide (at_ + cz ≤ pn) = true := decide_eq_true h1
        by_cases h2 : o = 1
        · subst h2
          by_cases h3 : n ≤ k
          · have f3 : decide (n ≤ k) = true := decide_eq_true h3
            clear h1 h3
            go_wp2
            go_meet
            exact ⟨by rw [f1, f3]; rfl, rfl⟩
          · have f3 : decide (n ≤ k) = false := decide_eq_false h3
            clear h1 h3
            go_wp2
            go_meet
            exact ⟨by rw [f1, f3]; rfl, rfl⟩
        · have f2 : (o == 1) = false := beq_eq_false_iff_ne.2 h2
          have f2b : decide (o = 1) = false := decide_eq_false h2
          clear h1 h2
          go_wp2
          go_meet
          exact ⟨by rw [f1, f2b]; rfl, rfl⟩
      · have f1 : decide (at_ + cz ≤ pn) = false := decide_eq_false h1
        clear h1
        go_wp2
        go_meet
        exact ⟨by rw [f1]; rfl, rfl⟩
    case rest =>
      obtain ⟨rfl, rfl⟩ := hcut
      clear HSC HSN
      rcases fits with _ | _
      · have hq : q = 6 := HFIT.out
        subst hq
        have hl := HLE.out (by decide)
        subst hl
        clear HPO HPL HFF HLE HRW
        go_wp2_with fail
        go_fit (HA.out _)
        rintro e w8 ⟨rfl, hb8⟩
        have HB8 := Lib.hid (beln HB7.out hb8)
        clear hb8
        go_wp2
        go_ret
        exact ⟨rfl, HB8.out⟩
      have hq : q = 0 := HFIT.out
      subst hq
      have hfit := HFF.out (by trivial)
      have hl := HPL.out rfl
      rw [Int.toNat_natCast] at hl
      have HLL := Lib.hid hl
      have HLN : Hid (l.length = cnt) := Lib.hid (by rw [hl]; simp)
      have HP1 := Lib.hid (HPO.out hfit)
      have hln := HLN.out
      clear HPO HPL HFF HLE HFIT hl
      rw [hln]
      go_wp2
      go_loopw [23] (fun vi wr => ∃ i : Nat, vi = .int .i64 i ∧ i ≤ cnt ∧ Hid (Below wc.heap.size wc wr)) (fun vi _ => cnt - (intOf vi).toNat)
      case atStart => exact ⟨0, rfl, Nat.zero_le _, Lib.hid (Below.refl _ _)⟩
      case round =>
        obtain ⟨i, rfl, hi, HBi⟩ := hrel
        generalize wr = wA at *
        by_cases hlt : i < cnt
        · have fj : decide ((i : Int) < (cnt : Int)) = true := by simp; omega
          have hlt2 : i < l.length := by have := HLN.out; omega
          have hA : ∃ k2 q2, A7 = some ⟨k2, q2, none⟩ ∧ k2 < wc.heap.size := by
            obtain ⟨k2, q2, h1, h2, _⟩ := HRW.out.cap hlt2
            exact ⟨k2, q2, h1, h2⟩
          obtain ⟨k2, q2, rfl, hk2⟩ := hA
          have HCL : Hid (∀ W, Below wc.heap.size wc W → ∀ j (hj : j < l.length), W.cell? ⟨k2, q2 + j * 7, none⟩ = some (.int .i64 l[j].kind) ∧ W.cell? ⟨k2, q2 + j * 7 + 1, none⟩ = some (.int .i64 l[j].base) ∧ W.cell? ⟨k2, q2 + j * 7 + 2, none⟩ = some (.int .i64 l[j].bits) ∧ W.cell? ⟨k2, q2 + j * 7 + 3, none⟩ = some (.int .i64 l[j].rights) ∧ W.cell? ⟨k2, q2 + j * 7 + 4, none⟩ = some (.int .i64 l[j].width) ∧ W.cell? ⟨k2, q2 + j * 7 + 5, none⟩ = some (.int .i64 l[j].level) ∧ W.cell? ⟨k2, q2 + j * 7 + 6, none⟩ = some (.bool l[j].device)) := Lib.hid fun W hW j hj => by
            obtain ⟨k3, q3, h1, _, z0, z1, z2, z3, z4, z5, z6⟩ := (HRW.out.next hW).cap hj
            injection h1 with h1
            injection h1 with e1 e2
            subst e1 e2
            exact ⟨z0, z1, z2, z3, z4, z5, z6⟩
          have hel : ∀ j (hj : j < l.length), l[j] = plO b r o k at_ j := fun j hj => by simp [HLL.out]
          obtain ⟨z0, z1, z2, z3, z4, z5, z6⟩ := HCL.out wA HBi.out i hlt2
          rw [hel i hlt2] at z0 z1 z2 z3 z4 z5 z6
          obtain ⟨hv1, hc1, hc2, hov⟩ := HP1.out i (by omega)
          have HV1 := Lib.hid fun W => pVC_any (plO b r o k at_ i) W
          rw [hv1] at HV1
          have HC1 := Lib.hid fun W => pCoe_any ⟨1, b, n, r, 0, 0, false⟩ (plO b r o k at_ i) W
          rw [hc1] at HC1
          have HC2 := Lib.hid fun W => pCoe_any (plO b r o k at_ i) ⟨1, b, n, r, 0, 0, false⟩ W
          rw [hc2] at HC2
          have HG2 := Lib.hid fun W => pRng_any (plO b r o k at_ i) W
          have HOVF := Lib.hid hov
          have HELF := Lib.hid hel
          obtain ⟨wd, hwd⟩ : ∃ x : Int, (if o = 3 then 39 else 0) = x := ⟨_, rfl⟩
          obtain ⟨lv, hlv⟩ : ∃ x : Int, (if o = 3 then 1 else 0) = x := ⟨_, rfl⟩
          have hik0 : 0 ≤ (i : Int) * pw k := Int.mul_nonneg (by omega) (by omega)
          have hik1 : (i : Int) * pw k ≤ 8 * pw k := Int.mul_le_mul_of_nonneg_right (by omega) (by omega)
          have HSI : Hid (wrap64 ((i : Int) * 2 ^ k.toNat) = (i : Int) * pw k) := Lib.hid (shl_p hik0 (by omega))
          have hs1 : IntKind.i64.wrap (b + at_) = b + at_ := IntWalk.i64_in _ (by omega)
          have hs2 : IntKind.i64.wrap (b + at_ + (i : Int) * pw k) = b + at_ + (i : Int) * pw k := IntWalk.i64_in _ (by omega)
          have HPI : Hid (plO b r o k at_ i = ⟨o, b + at_ + (i : Int) * pw k, k, r, wd, lv, false⟩) := Lib.hid (by unfold plO; rw [hwd, hlv])
          rw [HPI.out] at z0 z1 z2 z3 z4 z5 z6 HV1 HC1 HC2 HG2 HOVF
          simp only [GC.val, GC.rng, GR.val] at HV1 HC1 HC2 HG2
          simp only at z0 z1 z2 z3 z4 z5 z6
          clear HPI hel hv1 hc1 hc2 hov hwd hlv hik0 hik1
          generalize (i : Int) * pw k = ik at *
          obtain ⟨bb, hbb⟩ : ∃ bb, b + at_ + ik = bb := ⟨_, rfl⟩
          rw [hbb] at hs2 z1 HV1 HC1 HC2 HG2 HOVF
          have HN0 := Lib.hid ((HX7.out.next HBi.out).next (belt (Below.refl _ wA) (.cells #[.int .i64 o, .int .i64 bb, .int .i64 k, .int .i64 r, .int .i64 wd, .int .i64 lv, .bool false] 23)))
          have HM0 := Lib.hid (CB.new wA ⟨o, bb, k, r, wd, lv, false⟩)
          have HB0 := Lib.hid (belt HBi.out (.cells #[.int .i64 o, .int .i64 bb, .int .i64 k, .int .i64 r, .int .i64 wd, .int .i64 lv, .bool false] 23))
          have HIN : Hid (wA.heap.size < (wA.alloc (.cells #[.int .i64 o, .int .i64 bb, .int .i64 k, .int .i64 r, .int .i64 wd, .int .i64 lv, .bool false] 23)).heap.size) := Lib.hid (by simp)
          go_upto_region 17 with fail
          clear z0 z1 z2 z3 z4 z5 z6
          generalize wA.alloc (.cells #[.int .i64 o, .int .i64 bb, .int .i64 k, .int .i64 r, .int .i64 wd, .int .i64 lv, .bool false] 23) = wB at *
          generalize wA.heap.size = M at *
          have hsi := HSI.out
          clear HSI
          obtain ⟨y0, y1, y2, y3, y4, y5, y6⟩ := HN0.out.cells
          simp only at y0 y1 y2 y3 y4 y5 y6
          obtain ⟨x0, x1, x2, x3, x4, x5, x6⟩ := HM0.out.cells
          simp only at x0 x1 x2 x3 x4 x5 x6
          go_wp2_with fail
          go_fit (HV1.out _)
          rintro e w8 ⟨rfl, hb8⟩
          have HN8 := Lib.hid (HN0.out.next hb8)
          have HM8 := Lib.hid (HM0.out.next hb8)
          have HB8 := Lib.hid (beln HB0.out hb8)
          clear hb8 y0 y1 y2 y3 y4 y5 y6 x0 x1 x2 x3 x4 x5 x6 HN0 HM0 HB0
          obtain ⟨y0, y1, y2, y3, y4, y5, y6⟩ := HN8.out.cells
          simp only at y0 y1 y2 y3 y4 y5 y6
          obtain ⟨x0, x1, x2, x3, x4, x5, x6⟩ := HM8.out.cells
          simp only at x0 x1 x2 x3 x4 x5 x6
          go_wp2_with fail
          go_fit (HC1.out _)
          rintro e w9 ⟨rfl, hb9⟩
          have HN9 := Lib.hid (HN8.out.next hb9)
          have HM9 := Lib.hid (HM8.out.next hb9)
          have HB9 := Lib.hid (beln HB8.out hb9)
          clear hb9 y0 y1 y2 y3 y4 y5 y6 x0 x1 x2 x3 x4 x5 x6 HN8 HM8 HB8
          obtain ⟨y0, y1, y2, y3, y4, y5, y6⟩ := HN9.out.cells
          simp only at y0 y1 y2 y3 y4 y5 y6
          obtain ⟨x0, x1, x2, x3, x4, x5, x6⟩ := HM9.out.cells
          simp only at x0 x1 x2 x3 x4 x5 x6
          go_wp2_with fail
          go_fit (HC2.out _)
          rintro e w10 ⟨rfl, hb10⟩
          have HN10 := Lib.hid (HN9.out.next hb10)
          have HM10 := Lib.hid (HM9.out.next hb10)
          have HB10 := Lib.hid (beln HB9.out hb10)
          clear hb10 y0 y1 y2 y3 y4 y5 y6 x0 x1 x2 x3 x4 x5 x6 HN9 HM9 HB9
          obtain ⟨y0, y1, y2, y3, y4, y5, y6⟩ := HN10.out.cells
          simp only at y0 y1 y2 y3 y4 y5 y6
          obtain ⟨x0, x1, x2, x3, x4, x5, x6⟩ := HM10.out.cells
          simp only at x0 x1 x2 x3 x4 x5 x6
          go_upto_region 19 with fail
          clear hsi hs1 hs2 y0 y1 y2 y3 y4 y5 y6 HN10 HV1 HC1 HC2
          have hS := (Below.refl w10.heap.size w10).drew
          have HJ : Hid (cnt - (i + 1) < cnt - i) := Lib.hid (by omega)
          rcases Nat.eq_zero_or_pos i with h0 | h0
          · have f0 : decide ((0 : Int) < (i : Int)) = false := by simp; omega
            have HE := Lib.hid HB10.out.drew
            have f0n : decide (0 < i) = false := by simp; omega
            clear HM10 x0 x1 x2 x3 x4 x5 x6 HB10 h0
            generalize w10 = wz at *
            refine wp_region_growS (S := fun W => Below wz.heap.size wz W) [(0, true), (1, true), (2, true), (3, true), (4, true), (5, true), (6, true), (7, true), (9, true), (8, false), (10, false), (11, false), (12, true)] (by kernel_rfl) (by kernel_rfl) (by kernel_rfl) (by kernel_rfl) (by intro c a d v w h; cases d <;> exact h) hS ?_
            iterate 9
              (first
                | (refine wpGrowS_float (v := ?_) (by simp only [List.getElem?_toArray, List.getElem?_cons_succ, List.getElem?_cons_zero]; rfl) (by rfl) ?_ ?_
                   rotate_left
                   · (intro W hW; skip; (try simp only at *); go_simp; try with_reducible rfl)
                   simp only [Act.put, List.setIfInBounds_toArray, List.set_cons_zero, List.set_cons_succ])
                | (refine wpGrowS_skip (by simp only [List.getElem?_toArray, List.getElem?_cons_succ, List.getElem?_cons_zero]; rfl) (by rfl) ?_
                   simp only [Act.put, List.setIfInBounds_toArray, List.set_cons_zero, List.set_cons_succ]))
            refine wpGrowS_pass hS (by simp only [List.getElem?_toArray, List.getElem?_cons_succ, List.getElem?_cons_zero]; rfl) (by rfl) ?_
            try simp only [Act.put, List.setIfInBounds_toArray, List.set_cons_zero, List.set_cons_succ]
            refine wpGrowS_pass hS (by simp only [List.getElem?_toArray, List.getElem?_cons_succ, List.getElem?_cons_zero]; rfl) (by rfl) ?_
            try simp only [Act.put, List.setIfInBounds_toArray, List.set_cons_zero, List.set_cons_succ]
            refine wpGrowS_pass hS (by simp only [List.getElem?_toArray, List.getElem?_cons_succ, List.getElem?_cons_zero]; rfl) (by rfl) ?_
            try simp only [Act.put, List.setIfInBounds_toArray, List.set_cons_zero, List.set_cons_succ]
            iterate 1
              (first
                | (refine wpGrowS_float (v := ?_) (by simp only [List.getElem?_toArray, List.getElem?_cons_succ, List.getElem?_cons_zero]; rfl) (by rfl) ?_ ?_
                   rotate_left
                   · (intro W hW; skip; (try simp only at *); go_simp; try with_reducible rfl)
                   simp only [Act.put, List.setIfInBounds_toArray, List.set_cons_zero, List.set_cons_succ])
                | (refine wpGrowS_skip (by simp only [List.getElem?_toArray, List.getElem?_cons_succ, List.getElem?_cons_zero]; rfl) (by rfl) ?_
                   simp only [Act.put, List.setIfInBounds_toArray, List.set_cons_zero, List.set_cons_succ]))
            refine wpGrowS_nil ?_
            clear hS
            generalize wz.drew = wy at *
            go_wp2
            go_roundw
            case rel => exact ⟨i + 1, by go_num, by omega, HE⟩
            case measure => simp [intOf]; have := HJ.out; omega
          · have f0 : decide ((0 : Int) < (i : Int)) = true := by simp; omega
            have f0n : decide (0 < i) = true := by simp; omega
            obtain ⟨m, hm⟩ : ∃ m, m + 1 = i := ⟨i - 1, by omega⟩
            have hmw : IntKind.i64.wrap (m : Int) = (m : Int) := IntWalk.i64_in _ (by omega)
            have hidx2 : (i : Int) - 1 = (m : Int) := by omega
            have hml : m < l.length := by omega
            have hmc : m < cnt := by omega
            have hmd : decide ((m : Int) < (cnt : Int)) = true := by simp; omega
            obtain ⟨d0, d1, d2, d3, d4, d5, d6⟩ := HCL.out w10 HB10.out m hml
            have hno := HOVF.out m hm
            rw [HELF.out m hml] at d0 d1 d2 d3 d4 d5 d6
            generalize plO b r o k at_ m = cm at *
            obtain ⟨mk, mb, mn, mr, mw, ml, md⟩ := cm
            simp only at d0 d1 d2 d3 d4 d5 d6
            have HG1 := Lib.hid fun W => pRng_any ⟨mk, mb, mn, mr, mw, ml, md⟩ W
            have HOV := Lib.hid fun W => rOv_any ⟨mb, mn⟩ ⟨bb, k⟩ W
            rw [show ovR ⟨mb, mn⟩ ⟨bb, k⟩ = false from hno] at HOV
            simp only [GC.val, GC.rng, GR.val] at HG1 HOV
            have hk2z : k2 < w10.heap.size := by have := HB10.out.size; omega
            have hMz := HM10.out.lt
            generalize w10 = wz at *
            obtain ⟨e0, e1, e2, e3, e4, e5, e6⟩ : CBF wz M ⟨o, bb, k, r, wd, lv, false⟩ := ⟨x0, x1, x2, x3, x4, x5, x6⟩
            simp only at e0 e1 e2 e3 e4 e5 e6
            clear x0 x1 x2 x3 x4 x5 x6 hno HCL HELF HOVF
            refine wp_region_growS (S := fun W => Below wz.heap.size wz W) [(0, true), (1, true), (2, true), (3, true), (4, true), (5, true), (6, true), (7, true), (9, true), (8, false), (10, false), (11, false), (12, true)] (by kernel_rfl) (by kernel_rfl) (by kernel_rfl) (by kernel_rfl) (by intro c a d v w h; cases d <;> exact h) hS ?_
            iterate 9
              (first
                | (refine wpGrowS_float (v := ?_) (by simp only [List.getElem?_toArray, List.getElem?_cons_succ, List.getElem?_cons_zero]; rfl) (by rfl) ?_ ?_
                   rotate_left
                   · (intro W hW; have t0 := (hW.cell (p := ⟨k2, q2 + m * 7, none⟩) hk2z).trans d0; have t1 := (hW.cell (p := ⟨k2, q2 + m * 7 + 1, none⟩) hk2z).trans d1; have t2 := (hW.cell (p := ⟨k2, q2 + m * 7 + 2, none⟩) hk2z).trans d2; have t3 := (hW.cell (p := ⟨k2, q2 + m * 7 + 3, none⟩) hk2z).trans d3; have t4 := (hW.cell (p := ⟨k2, q2 + m * 7 + 4, none⟩) hk2z).trans d4; have t5 := (hW.cell (p := ⟨k2, q2 + m * 7 + 5, none⟩) hk2z).trans d5; have t6 := (hW.cell (p := ⟨k2, q2 + m * 7 + 6, none⟩) hk2z).trans d6; have u0 := (hW.cell (p := ⟨M, 0, none⟩) hMz).trans e0; have u1 := (hW.cell (p := ⟨M, 1, none⟩) hMz).trans e1; have u2 := (hW.cell (p := ⟨M, 2, none⟩) hMz).trans e2; have u3 := (hW.cell (p := ⟨M, 3, none⟩) hMz).trans e3; have u4 := (hW.cell (p := ⟨M, 4, none⟩) hMz).trans e4; have u5 := (hW.cell (p := ⟨M, 5, none⟩) hMz).trans e5; have u6 := (hW.cell (p := ⟨M, 6, none⟩) hMz).trans e6; (try simp only at *); go_simp; try with_reducible rfl)
                   simp only [Act.put, List.setIfInBounds_toArray, List.set_cons_zero, List.set_cons_succ])
                | (refine wpGrowS_skip (by simp only [List.getElem?_toArray, List.getElem?_cons_succ, List.getElem?_cons_zero]; rfl) (by rfl) ?_
                   simp only [Act.put, List.setIfInBounds_toArray, List.set_cons_zero, List.set_cons_succ]))
            refine wpGrowS_call (by simp only [List.getElem?_toArray, List.getElem?_cons_succ, List.getElem?_cons_zero]; rfl) (by rfl) fun K hK => ?_
            go_simp
            go_fit (HG1.out _)
            rintro e wn ⟨rfl, hbn⟩
            have hSp := hS
            have hS : Below wz.heap.size wz wn := beln hS hbn
            go_simp
            refine hK _ _ hS ?_
            clear hK K
            try simp only [Act.put, List.setIfInBounds_toArray, List.set_cons_zero, List.set_cons_succ]
            refine wpGrowS_call (by simp only [List.getElem?_toArray, List.getElem?_cons_succ, List.getElem?_cons_zero]; rfl) (by rfl) fun K hK => ?_
            go_simp
            go_fit (HG2.out _)
            rintro e wn ⟨rfl, hbn⟩
            have hSp := hS
            have hS : Below wz.heap.size wz wn := beln hS hbn
            go_simp
            refine hK _ _ hS ?_
            clear hK K
            try simp only [Act.put, List.setIfInBounds_toArray, List.set_cons_zero, List.set_cons_succ]
            refine wpGrowS_call (by simp only [List.getElem?_toArray, List.getElem?_cons_succ, List.getElem?_cons_zero]; rfl) (by rfl) fun K hK => ?_
            go_simp
            go_fit (HOV.out _)
            rintro e wn ⟨rfl, hbn⟩
            have hSp := hS
            have hS : Below wz.heap.size wz wn := beln hS hbn
            go_simp
            refine hK _ _ hS ?_
            clear hK K
            try simp only [Act.put, List.setIfInBounds_toArray, List.set_cons_zero, List.set_cons_succ]
            iterate 1
              (first
                | (refine wpGrowS_float (v := ?_) (by simp only [List.getElem?_toArray, List.getElem?_cons_succ, List.getElem?_cons_zero]; rfl) (by rfl) ?_ ?_
                   rotate_left
                   · (intro W hW; have t0 := (hW.cell (p := ⟨k2, q2 + m * 7, none⟩) hk2z).trans d0; have t1 := (hW.cell (p := ⟨k2, q2 + m * 7 + 1, none⟩) hk2z).trans d1; have t2 := (hW.cell (p := ⟨k2, q2 + m * 7 + 2, none⟩) hk2z).trans d2; have t3 := (hW.cell (p := ⟨k2, q2 + m * 7 + 3, none⟩) hk2z).trans d3; have t4 := (hW.cell (p := ⟨k2, q2 + m * 7 + 4, none⟩) hk2z).trans d4; have t5 := (hW.cell (p := ⟨k2, q2 + m * 7 + 5, none⟩) hk2z).trans d5; have t6 := (hW.cell (p := ⟨k2, q2 + m * 7 + 6, none⟩) hk2z).trans d6; have u0 := (hW.cell (p := ⟨M, 0, none⟩) hMz).trans e0; have u1 := (hW.cell (p := ⟨M, 1, none⟩) hMz).trans e1; have u2 := (hW.cell (p := ⟨M, 2, none⟩) hMz).trans e2; have u3 := (hW.cell (p := ⟨M, 3, none⟩) hMz).trans e3; have u4 := (hW.cell (p := ⟨M, 4, none⟩) hMz).trans e4; have u5 := (hW.cell (p := ⟨M, 5, none⟩) hMz).trans e5; have u6 := (hW.cell (p := ⟨M, 6, none⟩) hMz).trans e6; (try simp only at *); go_simp; try with_reducible rfl)
                   simp only [Act.put, List.setIfInBounds_toArray, List.set_cons_zero, List.set_cons_succ])
                | (refine wpGrowS_skip (by simp only [List.getElem?_toArray, List.getElem?_cons_succ, List.getElem?_cons_zero]; rfl) (by rfl) ?_
                   simp only [Act.put, List.setIfInBounds_toArray, List.set_cons_zero, List.set_cons_succ]))
            refine wpGrowS_nil ?_
            have HE := Lib.hid (beln HB10.out hS)
            clear hS hbn hSp
            go_wp2
            go_roundw
            case rel => exact ⟨i + 1, by go_num, by omega, HE⟩
            case measure => simp [intOf]; have := HJ.out; omega
        · have fj : decide ((i : Int) < (cnt : Int)) = false := by simp; omega
          have HBE := Lib.hid (beln HB7.out HBi.out)
          clear HBi HP1
          go_wp2_with fail
          go_fit (HA.out _)
          rintro e w8 ⟨rfl, hb8⟩
          have HB8 := Lib.hid (beln HBE.out hb8)
          clear hb8
          go_wp2
          go_ret
          exact ⟨rfl, HB8.out⟩
end Go.Proofs.Ytpjakfbjiioflaa
