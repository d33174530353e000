/-
  The law CapCodecExact returns true.
  Conditions: none.
-/
import Derived.Test.YtpjakfbjiioflaaCah
namespace Go.Proofs.Ytpjakfbjiioflaa

open Go.RowKit

set_option maxRecDepth 20000 in
set_option maxHeartbeats 2000000 in
theorem lcodEx (c : GC) (A : Option Addr) (len cap : Nat) (l : List UInt8) (w : World) (hb : Byt w w.heap.size A len l) : Calls Try.prog 5 #[c.val, .slice A len cap] w fun e w' => e = .returned (.bool true) ∧ Below w.heap.size w w' := by
  obtain rfl : l.length = len := hb.1
  have HA := Lib.hid fun W => awake11 W
  have HX := Lib.hid (CB.new w c)
  have HB := Lib.hid ((hb.below (belt (Below.refl _ w) (.cells #[.int .i64 c.kind, .int .i64 c.base, .int .i64 c.bits, .int .i64 c.rights, .int .i64 c.width, .int .i64 c.level, .bool c.device] 23))).wide (belt (Below.refl _ w) (.cells #[.int .i64 c.kind, .int .i64 c.base, .int .i64 c.bits, .int .i64 c.rights, .int .i64 c.width, .int .i64 c.level, .bool c.device] 23)).size)
  have HB0 := Lib.hid (belt (Below.refl _ w) (.cells #[.int .i64 c.kind, .int .i64 c.base, .int .i64 c.bits, .int .i64 c.rights, .int .i64 c.width, .int .i64 c.level, .bool c.device] 23))
  have HE1 := Lib.hid fun W => pEnc_any c W
  have HE2 := Lib.hid fun W => rEnc_any c W
  have HD1 := Lib.hid fun A c W h => pDec_any l A c W h
  have HD2 := Lib.hid fun A c W h => rDec_any l A c W h
  have HEQ : Hid (∀ W, (Op.equalIn 10000 23 (decC l).val (decC l).val).run Try.prog W = .ok true W) := Lib.hid fun W => by rw [cap_eql, (eqC_iff _ _).2 rfl]
  generalize (if vC c = true then (0 : Int) else 1) = q at *
  generalize (if vC c = true then encC c else []) = ec at *
  generalize decC l = dc at *
  generalize decE l = de at *
  obtain ⟨ck, cb, cn, cr, cw, cl, cd⟩ := c
  obtain ⟨dk, db, dn, dr, dw, dl, dd⟩ := dc
  simp only [GC.val] at *
  clear hb
  by_cases h100 : 100 < l.length
  · have fb : decide ((100 : Int) < (l.length : Int)) = true := by simp; omega
    clear HX HB HE1 HE2 HD1 HD2 HEQ h100
    generalize l.length = n at *
    go_enter Try.func5, Try.ntmps5
    go_wp2_with fail
    go_fit (HA.out _)
    rintro e w1 ⟨rfl, hb1⟩
    have HB1 := Lib.hid (beln HB0.out hb1)
    clear hb1 HA HB0
    go_wp2
    go_ret
    exact ⟨rfl, HB1.out⟩
  have fb : decide ((100 : Int) < (l.length : Int)) = false := by simp; omega
  have HL := Lib.hid h100
  clear h100
  go_enter Try.func5, Try.ntmps5
  go_wp2_with fail
  go_fit (HE1.out _)
  rintro e w1 ⟨v1, rfl, ho1, hb1⟩
  obtain ⟨A1, c1, rfl, _, _, hr1⟩ := ho1.form
  have HR1 := Lib.hid hr1
  have HX1 := Lib.hid (HX.out.next hb1)
  have HY1 := Lib.hid ((HB.out.below hb1).wide hb1.size)
  have HB1 := Lib.hid (beln HB0.out hb1)
  clear ho1 hr1 hb1 HE1 HX HB0 HB fb
  obtain ⟨y0, y1, y2, y3, y4, y5, y6⟩ := HX1.out.cells
  simp only at y0 y1 y2 y3 y4 y5 y6
  go_wp2_with fail
  go_fit (HE2.out _)
  rintro e w2 ⟨v2, rfl, ho2, hb2⟩
  obtain ⟨A2, c2, rfl, _, _, hr2⟩ := ho2.form
  have HR2 := Lib.hid hr2
  have HR1b := Lib.hid ((HR1.out.below hb2).wide hb2.size)
  have HY2 := Lib.hid ((HY1.out.below hb2).wide hb2.size)
  have HB2 := Lib.hid (beln HB1.out hb2)
  clear ho2 hr2 hb2 HE2 HX1 HY1 HB1 HR1 y0 y1 y2 y3 y4 y5 y6
  obtain ⟨v3, w3, hrun, hown, hb3, hsz⟩ := Own.app (Own.nil w2 w2.heap.size) cap HY2.out (Below.refl _ w2) (Nat.le_refl _) (by have := HL.out; simp; omega)
  obtain ⟨A3, c3, rfl, _, _, hr3⟩ := hown.form
  have HRUN := Lib.hid hrun
  have HR3 := Lib.hid hr3
  have HB3 := Lib.hid (beln HB2.out hb3)
  have HR1c := Lib.hid ((HR1b.out.below hb3).wide hb3.size)
  have HR2c := Lib.hid ((HR2.out.below hb3).wide hb3.size)
  have HY3 := Lib.hid ((HY2.out.below hb3).wide hb3.size)
  have HDC := Lib.hid (HD1.out A3 c3 w3 hr3)
  simp only [List.nil_append] at *
  clear hrun hown hb3 hsz hr3 HR1b HR2 HY2 HB2 HD1 HR3
  generalize hnl : l.length = nl at *
  go_wp2_with (first | (at_builtin; refine wpList_app_run HRUN.out rfl rfl rfl rfl rfl ?_) | (go_at_call 28; go_fit HDC.out; rintro e w4 ⟨rfl, hb4⟩))
  have hq1 := belt hb4 (.cells #[.int .i64 dk, .int .i64 db, .int .i64 dn, .int .i64 dr, .int .i64 dw, .int .i64 dl, .bool dd] 23)
  have HX4 := Lib.hid (CB.new w4 ⟨dk, db, dn, dr, dw, dl, dd⟩)
  have HB4 := Lib.hid (beln HB3.out hq1)
  have HR14 := Lib.hid ((HR1c.out.below hq1).wide hq1.size)
  have HR24 := Lib.hid ((HR2c.out.below hq1).wide hq1.size)
  have HY4 := (HY3.out.below hq1).wide hq1.size
  have HDR := Lib.hid (HD2.out A cap _ HY4)
  simp only at HX4
  have hw4 : w4.heap.size < (w4.alloc (.cells #[.int .i64 dk, .int .i64 db, .int .i64 dn, .int .i64 dr, .int .i64 dw, .int .i64 dl, .bool dd] 23)).heap.size := by simp
  clear hb4 hq1 HY4 HR1c HR2c HY3 HB3 HD2 HDC HRUN
  generalize w4.heap.size = N4 at *
  generalize w4.alloc (.cells #[.int .i64 dk, .int .i64 db, .int .i64 dn, .int .i64 dr, .int .i64 dw, .int .i64 dl, .bool dd] 23) = w5 at *
  go_wp2_with fail
  go_fit HDR.out
  rintro e w6 ⟨rfl, hb6⟩
  have hq2 := belt hb6 (.cells #[.int .i64 dk, .int .i64 db, .int .i64 dn, .int .i64 dr, .int .i64 dw, .int .i64 dl, .bool dd] 23)
  have hs6 := hb6.size
  have HX6 := Lib.hid (HX4.out.next hq2)
  have HZ6 := Lib.hid (CB.new w6 ⟨dk, db, dn, dr, dw, dl, dd⟩)
  have HB6 := Lib.hid (beln HB4.out hq2)
  have HS1 := Lib.hid ((HR14.out.below hq2).wide hq2.size)
  have HS2 := Lib.hid ((HR24.out.below hq2).wide hq2.size)
  simp only at HX6 HZ6
  clear hb6 hq2 HX4 HR14 HR24 HB4 HDR
  have hne : N4 ≠ w6.heap.size := by omega
  go_upto_region 7 with fail
  generalize w6.heap.size = N6 at *
  generalize w6.alloc (.cells #[.int .i64 dk, .int .i64 db, .int .i64 dn, .int .i64 dr, .int .i64 dw, .int .i64 dl, .bool dd] 23) = w7 at *
  have hk1 := HS1.out.str c1
  have hk2 := HS2.out.str c2
  obtain ⟨x0, x1, x2, x3, x4, x5, x6⟩ := HX6.out.cells
  obtain ⟨z0, z1, z2, z3, z4, z5, z6⟩ := HZ6.out.cells
  simp only at x0 x1 x2 x3 x4 x5 x6 z0 z1 z2 z3 z4 z5 z6
  have heq := fun W => HEQ.out W
  have fq : (q == q) = true := by simp
  have fd : (de == de) = true := by simp
  generalize ec.length = ne at *
  generalize bs ec = se at *
  go_wp2_with fail
  go_fit (HA.out _)
  rintro e w8 ⟨rfl, hb8⟩
  have HB8 := Lib.hid (beln HB6.out hb8)
  clear hb8 HA HB6 hk1 hk2 heq x0 x1 x2 x3 x4 x5 x6 z0 z1 z2 z3 z4 z5 z6
  go_wp2
  go_ret
  exact ⟨rfl, HB8.out⟩
end Go.Proofs.Ytpjakfbjiioflaa
