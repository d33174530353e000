/-
  The law CapRetypeExact returns true.
  Conditions: none.
-/
import Derived.Test.YtpjakfbjiioflaaCah
namespace Go.Proofs.Ytpjakfbjiioflaa

open Go.RowKit

theorem retL_len (s : GC) (obj n lev wid off cnt : Int) : (retL s obj n lev wid off cnt).length ≤ 8 := by
  unfold retL
  split
  · rename_i h
    rw [List.length_map, List.length_range]
    unfold retErr at h
    split at h
    · split at h
      · omega
      · split at h
        · rename_i h3
          have := h3.2.2.2.1
          omega
        · omega
    · omega
  · simp
set_option maxRecDepth 20000 in
set_option maxHeartbeats 1000000 in
theorem lretEx (s : GC) (obj n lev wid off cnt : Int) (w : World) : Calls Try.prog 4 #[s.val, .int .i64 obj, .int .i64 n, .int .i64 lev, .int .i64 wid, .int .i64 off, .int .i64 cnt] w fun e w' => e = .returned (.bool true) ∧ Below w.heap.size w w' := by
  have HP := Lib.hid fun W => pRet_any s obj n lev wid off cnt W
  have HR := Lib.hid fun W => rRet_any s obj n lev wid off cnt W
  have HL := Lib.hid (retL_len s obj n lev wid off cnt)
  have HA := Lib.hid fun W => awake11 W
  have HX := Lib.hid (CB.new w s)
  generalize retErr s obj n lev wid off cnt = q at *
  generalize retL s obj n lev wid off cnt = l at *
  obtain ⟨sk, sb, sn, sr, sw, sl, sd⟩ := s
  simp only [GC.val] at *
  have HB0 := Lib.hid (belt (Below.refl _ w) (.cells #[.int .i64 sk, .int .i64 sb, .int .i64 sn, .int .i64 sr, .int .i64 sw, .int .i64 sl, .bool sd] 23))
  go_enter Try.func4, Try.ntmps4
  go_wp2_with fail
  go_fit (HP.out _)
  rintro e w1 ⟨v1, rfl, ho1, hb1⟩
  obtain ⟨A1, c1, rfl, _, _, hr1⟩ := ho1.row GC.len
  have HR1 := Lib.hid hr1
  have HX1 := Lib.hid (HX.out.next hb1)
  have HB1 := Lib.hid (beln HB0.out hb1)
  clear ho1 hr1 hb1 HP HX HB0
  obtain ⟨y0, y1, y2, y3, y4, y5, y6⟩ := HX1.out.cells
  simp only at y0 y1 y2 y3 y4 y5 y6
  go_wp2_with fail
  go_fit (HR.out _)
  rintro e w2 ⟨v2, rfl, ho2, hb2⟩
  obtain ⟨A2, c2, rfl, _, _, hr2⟩ := ho2.row GC.len
  have HS := Lib.hid (rSmc_any l l A1 A2 c1 c2 w2 (HR1.out.next hb2) hr2 (by have := HL.out; omega) (by have := HL.out; omega))
  have HB2 := Lib.hid (beln HB1.out hb2)
  clear ho2 hr2 hb2 HR HX1 y0 y1 y2 y3 y4 y5 y6 HR1 HB1
  rw [show decide (l = l) = true by simp] at HS
  generalize l.length = nl at *
  go_wp2_with fail
  go_fit HS.out
  rintro e w3 ⟨rfl, hb3⟩
  have HB3 := Lib.hid (beln HB2.out hb3)
  clear hb3 HS HB2
  have fq : (q == q) = true := by simp
  go_wp2_with fail
  go_fit (HA.out _)
  rintro e w4 ⟨rfl, hb4⟩
  have HB4 := Lib.hid (beln HB3.out hb4)
  clear hb4 HA HB3
  go_wp2
  go_ret
  exact ⟨rfl, HB4.out⟩
end Go.Proofs.Ytpjakfbjiioflaa
