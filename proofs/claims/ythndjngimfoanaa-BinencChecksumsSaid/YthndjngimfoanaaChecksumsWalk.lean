/-
  The walk of the law BinencChecksums: it returns true and turns nothing that was there.
  Conditions: the argument reads as a list of bytes.
-/
import Derived.Test.YthndjngimfoanaaOpen
namespace Go.Proofs.Ythndjngimfoanaa
open Go.RowKit
set_option linter.unusedVariables false

set_option maxRecDepth 20000 in
set_option maxHeartbeats 800000 in
theorem checksums_walk (A : Option Addr) (n c : Nat) (l : List UInt8) (w : World) (h : Byt w w.heap.size A n l) (hc : n ≤ c) (hm : c ≤ maxLen) :
    Calls Try.prog 6 #[.slice A n c] w fun e w' => e = .returned (.bool true) ∧ Below w.heap.size w w' := by
  unfold maxLen at hm
  have HH := Lib.hid h
  clear h
  by_cases hbig : 3000 < n
  · have HA := Lib.hid (awake_any w)
    go_enter Try.func6, Try.ntmps6
    go_wp2_with fail
    refine HA.out.mono ?_
    rintro e w1 ⟨rfl, hb⟩
    have HB := Lib.hid hb
    clear hb
    go_wp2
    go_ret
    exact ⟨rfl, HB.out⟩
  · have HS1 := Lib.hid (spare_any A n c _ l w HH.out (by omega))
    go_enter Try.func6, Try.ntmps6
    go_wp2_with fail
    refine HS1.out.mono ?_
    rintro e w1 ⟨g1, cap1, rfl, hg1, hgl1, hc1, hm1, hby1, hb1⟩
    have HC1 := Lib.hid (crc_any _ n cap1 _ l w1 (by have := hby1.to (k := n) (by omega); rw [List.take_left' HH.out.1] at this; exact this) (by unfold maxLen; omega))
    have HB1 := Lib.hid hb1
    clear hby1 hb1 HS1
    go_wp2_with fail
    refine HC1.out.mono ?_
    rintro e w2 ⟨rfl, rfl⟩
    clear HC1
    have HC2 := Lib.hid (crcRef_any A n c _ l w1 (HH.out.below HB1.out) (by unfold maxLen; omega))
    go_wp2_with fail
    refine HC2.out.mono ?_
    rintro e w2 ⟨rfl, rfl⟩
    clear HC2
    have HS2 := Lib.hid (spare_any A n c _ l w1 (HH.out.below HB1.out) (by omega))
    go_wp2_with fail
    refine HS2.out.mono ?_
    rintro e w2 ⟨g2, cap2, rfl, hg2, hgl2, hc2, hm2, hby2, hb2⟩
    have HB2 := Lib.hid (HB1.out.trans (hb2.mono HB1.out.size))
    have HC3 := Lib.hid (sum_any _ n cap2 _ l w2 (by have := hby2.to (k := n) (by omega); rw [List.take_left' HH.out.1] at this; exact this) (by omega))
    clear hby2 hb2 HS2
    go_wp2_with fail
    refine HC3.out.mono ?_
    rintro e w3 ⟨rfl, rfl⟩
    clear HC3
    have HC4 := Lib.hid (sumRef_any A n c _ l w2 (HH.out.below HB2.out) (by omega))
    go_wp2_with fail
    refine HC4.out.mono ?_
    rintro e w3 ⟨rfl, rfl⟩
    clear HC4
    have HA := Lib.hid (awake_any w2)
    go_wp2_with fail
    refine HA.out.mono ?_
    rintro e w3 ⟨rfl, hb3⟩
    have HB3 := Lib.hid (HB2.out.trans (hb3.mono HB2.out.size))
    clear hb3 HA
    go_wp2
    go_ret
    exact ⟨rfl, HB3.out⟩

end Go.Proofs.Ythndjngimfoanaa
