/-
  The walk of the law LexPositions: it returns true.
  Conditions: the variable strconv.ErrRange lies qs the program's start lays it.
-/
import Derived.Test.YtoedieknjbojdaaDoorPre
import Derived.Test.YtoedieknjbojdaaDoorSame
import Derived.Test.YtoedieknjbojdaaDoorLexR
namespace Go.Proofs.YtoedieknjbojdaaDoor
open Go.RowKit Go.Shelf

theorem lit_row (W : World) (t : GTok) : TRow (W.alloc (.cells #[.int .i64 t.kind, .string ⟨t.text.toArray⟩, .int .u64 t.value, .int .i64 t.line, .int .i64 t.col] 33)) (W.heap.size + 1) (some ⟨W.heap.size, 0, none⟩) [t] := fun _ =>
  ⟨W.heap.size, 0, rfl, by omega, fun i hi j u hu => by
    have h0 : i = 0 := by simpa using hi
    subst h0
    have := lit_cells W t W.heap.size rfl j u (by simpa using hu)
    simpa using this⟩

set_option maxRecDepth 50000 in
set_option maxHeartbeats 4000000 in
theorem positions_walk (l : List UInt8) (w : World) (hl : l.length ≤ maxLen) (hG : Glob w) :
    Calls Tryd.prog 7 #[.string ⟨l.toArray⟩] w fun e w' => e = .returned (.bool true) ∧ Below w.heap.size w w' := by
  have HG := Lib.hid hG
  have HAW := Lib.hid awake_any
  have hml := hl
  unfold maxLen at hl
  rcases Nat.lt_or_ge 1000 l.length with hbig | hsm
  · clear hG
    go_enter Tryd.func7, Tryd.ntmps7
    go_wp2_with (go_at_call 11; refine (HAW.out _ HG.out).mono ?_; rintro e w1 ⟨rfl, hb1⟩)
    go_ret
    exact ⟨rfl, by assumption⟩
  · cases hs : scan l with
    | no a b er =>
      have hlx : lex 0 (1, 1) l = .no a b er := by rw [← scan_small (by omega)]; exact hs
      have he0 := err_pos hlx
      have HS := Lib.hid (scan_no l a b er hs w hG hml)
      have fe1 : ((er : Int) != 0) = true := by simp; omega
      clear hs hG hlx he0
      go_enter Tryd.func7, Tryd.ntmps7
      go_wp2_with fail
      refine HS.out.mono ?_
      rintro e w1 ⟨rfl, hb1⟩
      have HB1 := Lib.hid hb1
      clear hb1
      go_wp2_with fail
      refine (HAW.out _ (HG.out.next (bel_lit HB1.out _))).mono ?_
      rintro e w2 ⟨rfl, hb2⟩
      have HB2 := Lib.hid (bel_alloc HB1.out hb2)
      clear hb2
      go_wp2
      go_ret
      exact ⟨rfl, HB2.out⟩
    | ok ts =>
      have hlx : lex 0 (1, 1) l = .ok ts := by rw [← scan_small (by omega)]; exact hs
      obtain ⟨qs, hst⟩ := stands l ts 0 (Nat.zero_le _) hlx
      have hlen := stands_len hst
      have HST := Lib.hid hst
      have HS := Lib.hid (scan_ok l ts hs w hG hml)
      have HLN := Lib.hid hlen
      have htl : ts.length ≤ 65536 := by
        rcases stands_count hst with h | h
        · omega
        · rw [h]; simp
      clear hs hG hlx hst hlen
      go_enter Tryd.func7, Tryd.ntmps7
      go_wp2_with fail
      refine HS.out.mono ?_
      rintro e w1 ⟨A, cap, rfl, hcap, hr, hb1⟩
      have HR := Lib.hid hr
      have HB1 := Lib.hid hb1
      clear hb1 hr
      go_wp2
      go_loopw [6, 7] (fun ve vi wr => ∃ i : Nat, i ≤ ts.length ∧ ve = .int .i64 (nextOf l (qs.drop i) : Nat) ∧ vi = .int .i64 ((i : Int) - 1) ∧ Hid (Below w1.heap.size w1 wr)) (fun _ vi _ => (intOf vi + 1).toNat)
      case atStart => exact ⟨ts.length, Nat.le_refl _, by rw [HLN.out, List.drop_length]; rfl, rfl, Lib.hid ((Below.refl _ _).alloc (Nat.le_refl _) _)⟩
      case round =>
        obtain ⟨i, hi, rfl, rfl, HW⟩ := hrel
        cases i with
        | zero =>
          have hnx := (stands_next HST.out (Nat.zero_le _)).2
          have hbk : scan (l.take (nextOf l qs)) = .ok [] := by
            rw [scan_small (by rw [List.length_take]; omega)]
            have := stands_blank HST.out (1, 1)
            simpa using this
          have HT := Lib.hid fun W hW => scan_ok (l.take (nextOf l qs)) [] hbk W hW (by rw [List.length_take]; unfold maxLen; omega)
          have hcut1 := cut_to' l (nextOf l qs)
          rw [List.drop_zero]
          generalize nextOf l qs = e0 at *
          clear hbk
          have HBw := Lib.hid (bel_next HB1.out HW.out)
          go_wp2_with fail
          refine (HT.out _ (HG.out.next HBw.out)).mono ?_
          rintro e w3 ⟨A3, cap3, rfl, hcap3, hr3, hb3⟩
          have HB3 := Lib.hid (bel_next HBw.out hb3)
          clear hb3 hr3
          go_wp2_with fail
          refine (HAW.out _ (HG.out.next (bel_lit HB3.out _))).mono ?_
          rintro e w4 ⟨rfl, hb4⟩
          have HB4 := Lib.hid (bel_alloc HB3.out hb4)
          clear hb4
          go_wp2
          go_ret
          exact ⟨rfl, HB4.out⟩
        | succ m =>
          have hm : m < ts.length := by omega
          have hm2 : m < qs.length := by rw [← HLN.out]; exact hm
          obtain ⟨s1, s2, s3, s4⟩ := stands_at HST.out m hm hm2
          have hm3 : m < (ts.map Tok.g).length := by rw [List.length_map]; exact hm
          obtain ⟨b1, o1, rfl, hb1, x0, x1, x2, x3, x4⟩ := (HR.out.below (Nat.le_refl _) HW.out).cells5 hm3
          simp only [List.getElem_map, Tok.g] at x0 x1 x2 x3 x4
          have HNA : Hid (nextOf l (qs.drop m) = qs[m]) := by unfold Hid; rw [List.drop_eq_getElem_cons hm2]; rfl
          generalize qs[m] = a0 at *
          generalize nextOf l (qs.drop (m + 1)) = e0 at *
          generalize ts[m] = t at *
          have hcast : ((m + 1 : Nat) : Int) - 1 = (m : Int) := by omega
          rw [hcast]
          clear hcast hm2 hm3
          have HO := Lib.hid (offset_any l a0 t.line t.col (by omega) s3 (by omega))
          have hsc : scan ((l.take e0).drop a0) = .ok [⟨t.kind, t.text, t.value, 1, 1⟩] := by
            rw [scan_small (by rw [List.length_drop, List.length_take]; omega)]; exact s4 (1, 1)
          have HT := Lib.hid fun W hW => scan_ok ((l.take e0).drop a0) [⟨t.kind, t.text, t.value, 1, 1⟩] hsc W hW (by rw [List.length_drop, List.length_take]; unfold maxLen; omega)
          have hsl := slice_run l a0 e0 (by omega) s2 (a0 : Int) (e0 : Int) rfl rfl
          have HBw := Lib.hid (bel_next HB1.out HW.out)
          have hz0 := HW.out.size
          have HSE := Lib.hid fun (W : World) (A3 : Option Addr) (c3 N : Nat) (h1 : TRow W W.heap.size A3 [⟨t.kind, t.text, t.value, 1, 1⟩]) (h2 : TRow W W.heap.size (some ⟨N, 0, none⟩) [⟨t.kind, t.text, t.value, 1, 1⟩]) =>
            (same_eq [⟨t.kind, t.text, t.value, 1, 1⟩] A3 (some ⟨N, 0, none⟩) c3 1 W h1 h2 (by simp) : Calls Tryd.prog 14 #[.slice A3 1 c3, .slice (some ⟨N, 0, none⟩) 1 1, .bool false] W fun e w' => e = .returned (.bool true) ∧ Below W.heap.size W w')
          clear s3 s4 hsc
          go_wp2_with fail
          refine (HO.out _).mono ?_
          rintro e w2 ⟨rfl, hb2⟩
          have HB2 := Lib.hid (bel_next HBw.out hb2)
          have HX2 := Lib.hid (bel_next HW.out hb2)
          have HY2 := Lib.hid hb2
          have hwx : b1 < wr.heap.size := by omega
          clear hb2
          go_wp2_with fail
          refine (HT.out _ (HG.out.next HB2.out)).mono ?_
          rintro e w3 ⟨A3, cap3, rfl, hcap3, hr3, hb3⟩
          have HB3 := Lib.hid (bel_next HB2.out hb3)
          have HX3 := Lib.hid (bel_next HX2.out hb3)
          have hxw : Below wr.heap.size wr w3 := bel_next HY2.out hb3
          have y0 := (hxw.cell (p := ⟨b1, o1 + m * 5, none⟩) hwx).trans x0
          have y1 := (hxw.cell (p := ⟨b1, o1 + m * 5 + 1, none⟩) hwx).trans x1
          have y2 := (hxw.cell (p := ⟨b1, o1 + m * 5 + 2, none⟩) hwx).trans x2
          have y3 := (hxw.cell (p := ⟨b1, o1 + m * 5 + 3, none⟩) hwx).trans x3
          have y4 := (hxw.cell (p := ⟨b1, o1 + m * 5 + 4, none⟩) hwx).trans x4
          have hwy : b1 < w3.heap.size := by have := hxw.size; omega
          have HR3 := Lib.hid hr3
          clear hb3 hr3 hxw x0 x1 x2 x3 x4
          go_wp2_with fail
          have eP : ((w3.alloc (.cells #[.int .i64 0, .int .i64 0] 25)).alloc (.cells #[.int .i64 (t.kind : Int), .string ⟨t.text.toArray⟩, .int .u64 (t.value : Int), .int .i64 1, .int .i64 1] 33)).heap.size = w3.heap.size + 1 + 1 := by simp
          have h2 := lit_row ((w3.alloc (.cells #[.int .i64 0, .int .i64 0] 25)).alloc (.cells #[.int .i64 (t.kind : Int), .string ⟨t.text.toArray⟩, .int .u64 (t.value : Int), .int .i64 1, .int .i64 1] 33)) ⟨t.kind, t.text, t.value, 1, 1⟩
          rw [eP] at h2
          have hbW : Below w3.heap.size w3 (((w3.alloc (.cells #[.int .i64 0, .int .i64 0] 25)).alloc (.cells #[.int .i64 (t.kind : Int), .string ⟨t.text.toArray⟩, .int .u64 (t.value : Int), .int .i64 1, .int .i64 1] 33)).alloc (.cells #[.int .i64 (t.kind : Int), .string ⟨t.text.toArray⟩, .int .u64 (t.value : Int), .int .i64 1, .int .i64 1] 33)) := bel_lit (bel_lit (bel_lit (Below.refl _ _) _) _) _
          have h1 := (HR3.out.below (Nat.le_refl _) hbW).wide hbW.size
          refine (HSE.out _ A3 cap3 _ h1 (h2.wide (by simp))).mono ?_
          rintro e w4 ⟨rfl, hb4⟩
          have HX4 := Lib.hid (bel_next HX3.out (bel_next hbW hb4))
          clear hb4 h1 h2 hbW eP
          go_wp2
          go_roundw
          case rel => exact ⟨m, by omega, by rw [HNA.out], rfl, HX4⟩
          case measure => simp [intOf]
end Go.Proofs.YtoedieknjbojdaaDoor
