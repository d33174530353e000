/-
  The law CapRoundTrip returns true.
  Conditions: none.
-/
import Derived.Test.YtpjakfbjiioflaaCah
import Derived.Test.YtpjakfbjiioflaaCai
namespace Go.Proofs.Ytpjakfbjiioflaa

open Go.RowKit

theorem dec_yes {l : List UInt8} (h : decP l) : decE l = 0 ∧ vC (decC l) = true ∧ encC (decC l) = l := by
  have e : decC l = rawC l := by unfold decC; rw [if_pos h]
  refine ⟨by unfold decE; rw [if_pos h], by rw [e]; exact h.2.2, by rw [e]; exact enc_dec h⟩
theorem dec_no {l : List UInt8} (h : ¬ decP l) : decE l = 14 ∧ decC l = zC := by
  unfold decC decE
  rw [if_neg h, if_neg h]
  exact ⟨rfl, rfl⟩
set_option maxRecDepth 20000 in
set_option maxHeartbeats 2000000 in
theorem lcrt (kd ba bi ri le : Int) (A : Option Addr) (len cap : Nat) (l : List UInt8) (w : World) (hb : Byt w w.heap.size A len l) : Calls Try.prog 6 #[.int .i64 kd, .int .i64 ba, .int .i64 bi, .int .i64 ri, .int .i64 le, .slice A len cap] w fun e w' => e = .returned (.bool true) ∧ Below w.heap.size w w' := by
  obtain rfl : l.length = len := hb.1
  have HA := Lib.hid fun W => awake11 W
  have HB := Lib.hid hb
  have HM := Lib.hid (mCap_any kd ba bi ri le w)
  by_cases h100 : 100 < l.length
  · have fb : decide ((100 : Int) < (l.length : Int)) = true := by simp; omega
    clear HB HM hb h100
    generalize l.length = n at *
    go_enter Try.func6, Try.ntmps6
    go_wp2_with fail
    go_fit (HA.out _)
    rintro e w1 ⟨rfl, hb1⟩
    have HB1 := Lib.hid hb1
    clear hb1 HA
    go_wp2
    go_ret
    exact ⟨rfl, HB1.out⟩
  have fb : decide ((100 : Int) < (l.length : Int)) = false := by simp; omega
  clear h100 hb
  go_enter Try.func6, Try.ntmps6
  go_wp2_with fail
  go_fit HM.out
  rintro e w1 ⟨c, hv, rfl, hb1⟩
  have hq1 := belt hb1 (.cells #[.int .i64 c.kind, .int .i64 c.base, .int .i64 c.bits, .int .i64 c.rights, .int .i64 c.width, .int .i64 c.level, .bool c.device] 23)
  have HX := Lib.hid (CB.new w1 c)
  have HB1 := Lib.hid hq1
  have HY1 := Lib.hid ((HB.out.below hq1).wide hq1.size)
  have HE1 := Lib.hid fun W => pEnc_any c W
  rw [if_pos hv, if_pos hv] at HE1
  have HD1 := Lib.hid fun A cc W h => pDec_any (encC c) A cc W h
  obtain ⟨hd1, hd2⟩ := dec_enc hv
  rw [hd1, hd2, enc_len] at HD1
  have HEQ : Hid (∀ W, (Op.equalIn 10000 23 c.val c.val).run Try.prog W = .ok true W) := Lib.hid fun W => by rw [cap_eql, (eqC_iff _ _).2 rfl]
  have HLE := Lib.hid (enc_len c)
  clear hv hb1 hq1 hd1 hd2 HM HB
  generalize encC c = ec at *
  obtain ⟨ck, cb, cn, cr, cw, cl, cd⟩ := c
  simp only [GC.val] at *
  go_upto_region 4 with fail
  generalize w1.heap.size = N1 at *
  generalize w1.alloc (.cells #[.int .i64 ck, .int .i64 cb, .int .i64 cn, .int .i64 cr, .int .i64 cw, .int .i64 cl, .bool cd] 23) = w2 at *
  obtain ⟨y0, y1, y2, y3, y4, y5, y6⟩ := HX.out.cells
  simp only at y0 y1 y2 y3 y4 y5 y6
  go_wp2_with fail
  go_fit (HE1.out _)
  rintro e w3 ⟨v3, rfl, ho3, hb3⟩
  obtain ⟨A3, c3, rfl, _, _, hr3⟩ := ho3.form
  rw [HLE.out] at hr3
  have HB3 := Lib.hid (beln HB1.out hb3)
  have HX3 := Lib.hid (HX.out.next hb3)
  have HY3 := Lib.hid ((HY1.out.below hb3).wide hb3.size)
  have HDC := Lib.hid (HD1.out A3 c3 w3 hr3)
  clear ho3 hr3 hb3 HE1 HB1 HX HY1 HD1 y0 y1 y2 y3 y4 y5 y6
  have hle := HLE.out
  rw [hle]
  clear hle
  go_wp2_with fail
  go_fit HDC.out
  rintro e w4 ⟨rfl, hb4⟩
  have hq4 := belt hb4 (.cells #[.int .i64 ck, .int .i64 cb, .int .i64 cn, .int .i64 cr, .int .i64 cw, .int .i64 cl, .bool cd] 23)
  have HZ := Lib.hid (CB.new w4 ⟨ck, cb, cn, cr, cw, cl, cd⟩)
  have HX4 := Lib.hid (HX3.out.next hq4)
  have HB4 := Lib.hid (beln HB3.out hq4)
  have HY4 := Lib.hid ((HY3.out.below hq4).wide hq4.size)
  simp only at HZ HX4
  clear hb4 hq4 HDC HX3 HB3 HY3
  go_upto_region 6 with fail
  generalize w4.heap.size = N4 at *
  generalize w4.alloc (.cells #[.int .i64 ck, .int .i64 cb, .int .i64 cn, .int .i64 cr, .int .i64 cw, .int .i64 cl, .bool cd] 23) = w5 at *
  obtain ⟨x0, x1, x2, x3, x4, x5, x6⟩ := HX4.out.cells
  obtain ⟨z0, z1, z2, z3, z4, z5, z6⟩ := HZ.out.cells
  simp only at x0 x1 x2 x3 x4 x5 x6 z0 z1 z2 z3 z4 z5 z6
  have heq := fun W => HEQ.out W
  go_upto_region 8 with fail
  clear heq x0 x1 x2 x3 x4 x5 x6 z0 z1 z2 z3 z4 z5 z6 HEQ HZ HX4
  have HD5 := Lib.hid (pDec_any l A cap w5 HY4.out)
  by_cases hp : decP l
  case neg =>
    obtain ⟨e1, e2⟩ := dec_no hp
    rw [e1, e2] at HD5
    clear hp e1 e2
    simp only [GC.val, zC] at HD5
    have HEZ : Hid (∀ W, (Op.equalIn 10000 23 zC.val zC.val).run Try.prog W = .ok true W) := Lib.hid fun W => by rw [cap_eql, (eqC_iff _ _).2 rfl]
    simp only [GC.val, zC] at HEZ
    go_wp2_with fail
    go_fit HD5.out
    rintro e w6 ⟨rfl, hb6⟩
    have hq6 := belt hb6 (.cells #[.int .i64 0, .int .i64 0, .int .i64 0, .int .i64 0, .int .i64 0, .int .i64 0, .bool false] 23)
    have HB6 := Lib.hid (beln HB4.out hq6)
    clear hb6 hq6 HD5 HB4
    have hez := fun W => HEZ.out W
    go_wp2_with fail
    go_fit (HA.out _)
    rintro e w7 ⟨rfl, hb7⟩
    have HB7 := Lib.hid (beln HB6.out hb7)
    clear hb7 HA hez
    go_wp2
    go_ret
    exact ⟨rfl, HB7.out⟩
  obtain ⟨e1, hv2, e3⟩ := dec_yes hp
  rw [e1] at HD5
  have HE2 := Lib.hid fun W => pEnc_any (decC l) W
  rw [if_pos hv2, if_pos hv2, e3] at HE2
  have HV := Lib.hid fun W => pVC_any (decC l) W
  rw [hv2] at HV
  clear hp e1 e3 hv2
  generalize decC l = d at *
  obtain ⟨dk, db, dn, dr, dw, dl, dd⟩ := d
  simp only [GC.val] at *
  go_wp2_with fail
  go_fit HD5.out
  rintro e w6 ⟨rfl, hb6⟩
  have hq6 := belt hb6 (.cells #[.int .i64 dk, .int .i64 db, .int .i64 dn, .int .i64 dr, .int .i64 dw, .int .i64 dl, .bool dd] 23)
  have HB6 := Lib.hid (beln HB4.out hq6)
  have HY6 := Lib.hid ((HY4.out.below hq6).wide hq6.size)
  have HP := Lib.hid (CB.new w6 ⟨dk, db, dn, dr, dw, dl, dd⟩)
  simp only at HP
  clear hb6 hq6 HD5 HB4 HY4
  go_upto_region 9 with fail
  generalize w6.heap.size = N6 at *
  generalize w6.alloc (.cells #[.int .i64 dk, .int .i64 db, .int .i64 dn, .int .i64 dr, .int .i64 dw, .int .i64 dl, .bool dd] 23) = w7 at *
  obtain ⟨x0, x1, x2, x3, x4, x5, x6⟩ := HP.out.cells
  simp only at x0 x1 x2 x3 x4 x5 x6
  go_wp2_with fail
  go_fit (HE2.out _)
  rintro e w8 ⟨v8, rfl, ho8, hb8⟩
  obtain ⟨A8, c8, rfl, _, _, hr8⟩ := ho8.form
  have HB8 := Lib.hid (beln HB6.out hb8)
  have HP8 := Lib.hid (HP.out.next hb8)
  have hk1 := hr8.str c8
  have hk2 := ((HY6.out.below hb8).wide hb8.size).str cap
  clear ho8 hr8 hb8 HE2 HB6 HP HY6 x0 x1 x2 x3 x4 x5 x6
  obtain ⟨x0, x1, x2, x3, x4, x5, x6⟩ := HP8.out.cells
  simp only at x0 x1 x2 x3 x4 x5 x6
  generalize l.length = nl at *
  generalize bs l = sl at *
  go_wp2_with fail
  go_fit (HV.out _)
  rintro e w9 ⟨rfl, hb9⟩
  have HB9 := Lib.hid (beln HB8.out hb9)
  clear hb9 HV HB8 HP8 hk1 hk2 x0 x1 x2 x3 x4 x5 x6
  go_wp2_with fail
  go_fit (HA.out _)
  rintro e w10 ⟨rfl, hb10⟩
  have HB10 := Lib.hid (beln HB9.out hb10)
  clear hb10 HA
  go_wp2
  go_ret
  exact ⟨rfl, HB10.out⟩
end Go.Proofs.Ytpjakfbjiioflaa
