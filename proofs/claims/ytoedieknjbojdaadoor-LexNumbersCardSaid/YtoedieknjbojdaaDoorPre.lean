/-
  The walk of the law LexPrefix: it returns true.
  Conditions: the variable strconv.ErrRange lies as the program's start lays it.
-/
import Derived.Test.YtoedieknjbojdaaDoorOff
namespace Go.Proofs.YtoedieknjbojdaaDoor
open Go.RowKit Go.Shelf

theorem scan_small {l : List UInt8} (h : l.length ≤ 65536) : scan l = lex 0 (1, 1) l := by unfold scan; rw [if_neg (by omega)]
theorem err_pos {l : List UInt8} {q : Nat × Nat} {a b e : Nat} (h : lex 0 q l = .no a b e) : e ≠ 0 := by
  obtain ⟨k, hk, _, hs, _⟩ := lex_err_at l.length l q a b e (Nat.le_refl _) h
  rintro rfl
  rw [drop_cons hk] at hs
  unfold step at hs
  split at hs
  · cases hs
  · split at hs
    · cases hs
    · split at hs
      · cases hs
      · exact first_noerr0 _ hs

set_option maxRecDepth 50000 in
set_option maxHeartbeats 2000000 in
theorem prefix_walk (l : List UInt8) (w : World) (hl : l.length ≤ maxLen) (hG : Glob w) :
    Calls Tryd.prog 9 #[.string ⟨l.toArray⟩] w fun e w' => e = .returned (.bool true) ∧ Below w.heap.size w w' := by
  have HG := Lib.hid hG
  have HAW := Lib.hid awake_any
  have hml := hl
  unfold maxLen at hl
  rcases Nat.lt_or_ge 1000 l.length with hbig | hsm
  · clear hG
    go_enter Tryd.func9, Tryd.ntmps9
    go_wp2_with (go_at_call 11; refine (HAW.out _ HG.out).mono ?_; rintro e w1 ⟨rfl, hb1⟩)
    go_ret
    exact ⟨rfl, by assumption⟩
  · cases hs : scan l with
    | ok ts =>
      have HS := Lib.hid (scan_ok l ts hs w hG hml)
      clear hs hG
      go_enter Tryd.func9, Tryd.ntmps9
      go_wp2_with fail
      refine HS.out.mono ?_
      rintro e w1 ⟨A, cap, rfl, hcap, hr, hb1⟩
      have HB1 := Lib.hid hb1
      have HG1 := Lib.hid ((HG.out.next hb1).next ((Below.refl _ _).alloc (Nat.le_refl _) (.cells #[.int .i64 0, .int .i64 0] 25)))
      clear hb1 hr
      go_wp2_with fail
      refine (HAW.out _ HG1.out).mono ?_
      rintro e w2 ⟨rfl, hb2⟩
      have HB2 := Lib.hid hb2
      clear hb2
      go_wp2
      go_ret
      exact ⟨rfl, HB1.out.trans ((((Below.refl _ _).alloc (Nat.le_refl _) _).trans (HB2.out.mono (by simp))).mono HB1.out.size)⟩
    | no a b er =>
      have hlx : lex 0 (1, 1) l = .no a b er := by rw [← scan_small (by omega)]; exact hs
      obtain ⟨k, hk, hp, hst, ts, hts⟩ := lex_err_at l.length l (1, 1) a b er (Nat.le_refl _) hlx
      have he0 := err_pos hlx
      have HS := Lib.hid (scan_no l a b er hs w hG hml)
      have hts' : scan (l.take k) = .ok ts := by rw [scan_small (by rw [List.length_take]; omega)]; exact hts
      have hdr : scan (l.drop k) = .no 1 1 er := by
        rw [scan_small (by rw [List.length_drop]; omega), lex_er _ (drop_ne hk) hst]
      have HO := Lib.hid (offset_any l k a b (by omega) hp (by omega))
      have HT := Lib.hid fun W hW => scan_ok (l.take k) ts hts' W hW (by rw [List.length_take]; unfold maxLen; omega)
      have HD := Lib.hid fun W hW => scan_no (l.drop k) 1 1 er hdr W hW (by rw [List.length_drop]; unfold maxLen; omega)
      have hcut1 := cut_to' l k
      have hcut2 := cut_from' l k l.length (Nat.le_refl _)
      have fe1 : ((er : Int) == 0) = false := by simp; omega
      clear hs hG hlx hp hst hts hts' hdr he0 hml
      go_enter Tryd.func9, Tryd.ntmps9
      go_wp2_with fail
      refine HS.out.mono ?_
      rintro e w1 ⟨rfl, hb1⟩
      have HB1 := Lib.hid hb1
      clear hb1
      go_wp2_with fail
      refine (HO.out _).mono ?_
      rintro e w2 ⟨rfl, hb2⟩
      have HB2 := Lib.hid (bel_alloc HB1.out hb2)
      clear hb2
      go_wp2_with fail
      refine (HT.out _ (HG.out.next HB2.out)).mono ?_
      rintro e w3 ⟨A, cap, rfl, hcap, hr, hb3⟩
      have HB3 := Lib.hid (bel_next HB2.out hb3)
      clear hb3 hr
      go_wp2_with fail
      refine (HD.out _ (HG.out.next (bel_lit HB3.out _))).mono ?_
      rintro e w4 ⟨rfl, hb4⟩
      have HB4 := Lib.hid (bel_alloc HB3.out hb4)
      clear hb4
      have fe2 : ((er : Int) == (er : Int)) = true := by simp
      go_wp2_with fail
      refine (HAW.out _ (HG.out.next (bel_lit HB4.out _))).mono ?_
      rintro e w5 ⟨rfl, hb5⟩
      have HB5 := Lib.hid (bel_alloc HB4.out hb5)
      clear hb5
      go_wp2
      go_ret
      exact ⟨rfl, HB5.out⟩
end Go.Proofs.YtoedieknjbojdaaDoor
