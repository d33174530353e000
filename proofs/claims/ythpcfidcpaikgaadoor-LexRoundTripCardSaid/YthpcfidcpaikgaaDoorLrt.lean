/-
  The walk of the law LexRoundTrip: scanning the text of well-formed tokens yields them, and formatting these yields the same text.
  Conditions: the listed variables lie as the program's start lays them.
-/
import Derived.Test.YthpcfidcpaikgaaDoorRgt
namespace Go.Proofs.YthpcfidcpaikgaaDoor
open Go.RowKit Go.Shelf

set_option maxRecDepth 50000 in
set_option maxHeartbeats 1000000 in
theorem lexRoundTrip_walk (a : Option Addr) (len cap : Nat) (ts : List GTok) (w : World) (h : IsToks w a len cap ts) (hG : Glob2 w) :
    Calls Tryd.prog 5 #[.slice a len cap] w fun e w' => e = .returned (.bool true) ∧ Below w.heap.size w w' := by
  have HAW := Lib.hid fun W (hW : Glob2 W) => awake_any W hW.1
  have HG := Lib.hid hG
  have HR := Lib.hid h.row
  have HRT := Lib.hid (right_any a len cap ts w h)
  have HV := Lib.hid fun t ht => u64_bd (h.wf t ht).value
  obtain ⟨rfl, hle, hmx, _, _, _⟩ := h
  have hmx2 := hmx
  unfold maxLen at hmx2
  clear hG hmx
  go_enter Tryd.func5, Tryd.ntmps5
  go_wp2_with fail
  refine HRT.out.mono ?_
  rintro e w1 ⟨ok, rfl, hok, hb1⟩
  have HB1 := Lib.hid hb1
  have hs1 := hb1.size
  clear hb1
  cases ok
  · clear hok
    go_wp2_with fail
    refine (HAW.out _ (HG.out.next HB1.out)).mono ?_
    rintro e w2 ⟨rfl, hb2⟩
    go_wp2
    go_ret
    exact ⟨rfl, bel_next HB1.out hb2⟩
  · have HD := Lib.hid (hok rfl)
    clear hok
    obtain ⟨us, hus, hbe, hfl⟩ := HD.out.scan HV.out
    have HFEW := Lib.hid (HD.out.few HV.out)
    have HF2 := Lib.hid (bare_few hbe HFEW.out)
    have HFM := Lib.hid (bare_fmt hbe)
    have HLK := Lib.hid (bare_like hbe).2
    have HLN := Lib.hid (bare_like hbe).1
    have HL65 := Lib.hid HFEW.out.1
    have HSC := Lib.hid fun W hW => scan_ok (fmtL ts) us hus W hW (by unfold maxLen; omega)
    have HFT := Lib.hid (format_any ts a cap w1 ((HR.out.below (Nat.le_refl _) HB1.out).wide hs1) HFEW.out (HG.out.next HB1.out).2)
    generalize fmtL ts = fl at *
    clear hus hbe
    go_wp2_with fail
    refine HFT.out.mono ?_
    rintro e w2 ⟨rfl, hb2⟩
    have HB2 := Lib.hid (bel_next HB1.out hb2)
    clear hb2
    go_wp2_with fail
    refine (HSC.out _ (HG.out.next HB2.out).1).mono ?_
    rintro e w3 ⟨A3, c3, rfl, hc3, hr3, hb3⟩
    have HB3 := Lib.hid (bel_next HB2.out hb3)
    have HR3 := Lib.hid hr3
    have hs3 := HB3.out.size
    clear hb3 hr3 hc3
    go_wp2_with fail
    have HB4 := Lib.hid (bel_lit HB3.out (.cells #[.int .i64 0, .int .i64 0] 25))
    have HR4 := Lib.hid (HR3.out.below (Nat.le_refl _) ((Below.refl _ _).alloc (Nat.le_refl _) (.cells #[.int .i64 0, .int .i64 0] 25)))
    have HUL : Hid (us.length = (us.map Tok.g).length) := Lib.hid (by simp)
    rw [HUL.out]
    refine (same_like ts (us.map Tok.g) a A3 cap c3 _ ((HR.out.below (Nat.le_refl _) HB4.out).wide HB4.out.size) (HR4.out.wide (by simp)) HL65.out HLN.out HLK.out).mono ?_
    rintro e w5 ⟨rfl, hb5⟩
    have HB5 := Lib.hid (bel_next HB4.out hb5)
    have hs5 : w3.heap.size ≤ w5.heap.size := Nat.le_trans (by simp) hb5.size
    have HR5 := Lib.hid ((HR4.out.below (by simp) hb5).wide hs5)
    clear hb5
    go_wp2_with fail
    try rw [HUL.out]
    refine (format_any (us.map Tok.g) A3 c3 w5 HR5.out HF2.out (HG.out.next HB5.out).2).mono ?_
    rintro e w6 ⟨rfl, hb6⟩
    rw [HFM.out]
    have HB6 := Lib.hid (bel_next HB5.out hb6)
    have ffl : (fl == fl) = true := by simp
    clear hb6
    go_wp2_with fail
    refine (HAW.out _ (HG.out.next HB6.out)).mono ?_
    rintro e w7 ⟨rfl, hb7⟩
    go_wp2
    go_ret
    exact ⟨rfl, bel_next HB6.out hb7⟩
end Go.Proofs.YthpcfidcpaikgaaDoor
