/-
  The law RangeFindExact returns true.
  Conditions: none.
-/
import Derived.Test.YtlndafkmihdbmaaDoorLrb
namespace Go.Proofs.YtlndafkmihdbmaaDoor
open Go.RowKit

theorem RB.set {W : World} {N M : Nat} {r : GR} (h : RB W N r) (hne : N ≠ M) (j : Nat) (v : Value) : RB (W.setCell ⟨M, j, none⟩ v) N r := (Below.heap_setCell _ _ _ _ (by simpa using hne)).trans h
theorem RB.put {W : World} {N : Nat} {r : GR} (h : RB W N r) (x n : Int) : RB ((W.setCell ⟨N, 0, none⟩ (.int .i64 x)).setCell ⟨N, 1, none⟩ (.int .i64 n)) N ⟨x, n⟩ := by
  unfold RB at *
  have h1 := heap_setCell_same W N 0 #[.int .i64 r.base, .int .i64 r.bits] _ (.int .i64 x) h
  have h2 := heap_setCell_same (W.setCell ⟨N, 0, none⟩ (.int .i64 x)) N 1 #[.int .i64 x, .int .i64 r.bits] _ (.int .i64 n) (h1.trans rfl)
  exact h2.trans rfl
theorem put_end {w w3 : World} {N : Nat} {r z : GR} (hb : Below w.heap.size w w3) (hx : RB w3 w.heap.size r) (hz : RB w3 N z) (h1 : w.heap.size ≤ N) (h2 : w.heap.size < N) (x n : Int) :
    Below w.heap.size w ((w3.setCell ⟨N, 0, none⟩ (.int .i64 x)).setCell ⟨N, 1, none⟩ (.int .i64 n)) ∧ RB ((w3.setCell ⟨N, 0, none⟩ (.int .i64 x)).setCell ⟨N, 1, none⟩ (.int .i64 n)) w.heap.size r ∧ RB ((w3.setCell ⟨N, 0, none⟩ (.int .i64 x)).setCell ⟨N, 1, none⟩ (.int .i64 n)) N ⟨x, n⟩ :=
  ⟨(hb.setCell (p := ⟨N, 0, none⟩) h1 _).setCell (p := ⟨N, 1, none⟩) h1 _, (hx.set (by omega) 0 _).set (by omega) 1 _, hz.put x n⟩
set_option maxRecDepth 20000 in
set_option maxHeartbeats 4000000 in
theorem lfindEx (r : GR) (A : Option Addr) (len cap : Nat) (l : List GR) (n : Int) (w : World) (h : RRow w w.heap.size A len cap l) (hG : T10 w) :
    Calls Tryd.prog 5 #[r.val, .slice A len cap, .int .i64 n] w fun e w' => e = .returned (.bool true) ∧ Below w.heap.size w w' := by
  have HAW := Lib.hid fun W hb => awake10 W (T10.next hG hb)
  by_cases h64 : 64 < len
  · have f0 : decide ((64 : Int) < len) = true := by simp; omega
    have f1 : (64 : Int) < len := by omega
    clear h
    simp only [GR.val]
    go_enter Tryd.func5, Tryd.ntmps5
    go_wp2_with fail
    go_fit (HAW.out _ (belt (Below.refl _ w) _))
    rintro e w1 ⟨rfl, hb1⟩
    have HB1 := Lib.hid (bela (Below.refl _ w) hb1)
    clear hb1
    go_wp2
    go_ret
    exact ⟨rfl, HB1.out⟩
  · have f0 : decide ((64 : Int) < len) = false := by simp; omega
    have f1 : ¬ (64 : Int) < len := by omega
    obtain ⟨rfl, _, hrow⟩ := h
    have HCP := Lib.hid fun W h => copied_any l A cap W h (by omega)
    have HPF := Lib.hid fun A c W h hb => pFind_any r l n A c W h (by omega) (T10.next hG hb)
    have HRF := Lib.hid fun A c W h => rFind_any r l n A c W h (by omega)
    have HR := Lib.hid hrow
    have HX := Lib.hid (RB.new w r)
    obtain ⟨x, ok, hq⟩ : ∃ (x : GR) (ok : Bool), optV (findL r l n) = .tuple #[x.val, .bool ok] := by
      cases findL r l n with
      | none => exact ⟨zR, false, rfl⟩
      | some x => exact ⟨x, true, rfl⟩
    rw [hq] at HPF HRF
    obtain ⟨rb, rn⟩ := r
    obtain ⟨xb, xn⟩ := x
    simp only [GR.val] at *
    clear hrow hq
    go_enter Tryd.func5, Tryd.ntmps5
    go_upto_region 3 with fail
    generalize hw2 : (w.alloc (.cells #[.int .i64 rb, .int .i64 rn] 23)) = w1 at *
    have hbw : Below w.heap.size w w1 := by rw [← hw2]; exact belt (Below.refl _ w) _
    have hd : Below w1.heap.size w1 w1.drew := (Below.refl _ w1).drew
    have h1b : Below w.heap.size w w1.drew := beln hbw hd
    have h1x := RB.next HX.out hd
    have hz1 : Below w1.heap.size w1 (w1.alloc (.cells #[.int .i64 0, .int .i64 0] 23)).drew := ((Below.refl _ _).alloc (Nat.le_refl _) _).drew
    have h1zb := beln hbw hz1
    have h1zx := RB.next HX.out hz1
    have h1zy := RB.next HX.out ((Below.refl _ _).alloc (Nat.le_refl _) (.cells #[.int .i64 0, .int .i64 0] 23))
    obtain ⟨k0, k1, _, _⟩ := RB.facts h1zy
    have hzr : RB (w1.alloc (.cells #[.int .i64 0, .int .i64 0] 23)).drew w1.heap.size ⟨0, 0⟩ := RB.new w1 ⟨0, 0⟩
    obtain ⟨f0, f1, _, _⟩ := RB.facts h1x
    obtain ⟨g0, g1, _, _⟩ := RB.facts h1zx
    go_region_law
      (first
        | (go_simp; go_at_call 28; go_fit (HCP.out w1.drew (HR.out.next h1b)); rintro e w2 ⟨v1, rfl, ho1, hbn⟩; obtain ⟨A1, c1, rfl, hc1, hm1, hr1⟩ := ho1.row GR.len; have h2b := beln h1b hbn; have h2x := RB.next h1x hbn; have hz2 : Below w2.heap.size w2 (w2.alloc (.cells #[.int .i64 0, .int .i64 0] 23)) := (Below.refl _ _).alloc (Nat.le_refl _) _; have hzr2 := RB.new w2 ⟨0, 0⟩; have hr1z := GRow.next hr1 hz2; have h2zb := beln h2b hz2; have h2zx := RB.next h2x hz2; obtain ⟨p0, p1, _, _⟩ := RB.facts h2x; obtain ⟨p2, p3, _, _⟩ := RB.facts h2zx)
        | (go_simp; go_at_call 28; go_fit (HCP.out _ (HR.out.next h1zb)); rintro e w2 ⟨v1, rfl, ho1, hbn⟩; obtain ⟨A1, c1, rfl, hc1, hm1, hr1⟩ := ho1.row GR.len; have h2b := beln h1zb hbn; have h2x := RB.next h1zx hbn; have hzr2 := RB.next hzr hbn; obtain ⟨p0, p1, _, _⟩ := RB.facts h2x)
        | (go_simp; go_at_call 30; go_fit (HPF.out _ _ _ (by assumption) (by assumption)); rintro e w3 ⟨rfl, hbn⟩; have h3b := beln (w := w) (by assumption) hbn; have h3x := RB.next (N := w.heap.size) (by assumption) hbn; (first | (have hz3 := RB.next (N := w1.heap.size) (r := ⟨0, 0⟩) (by assumption) hbn; obtain ⟨y0, y1, z0, z1⟩ := RB.facts hz3) | (have hz3 := RB.next (N := _) (r := ⟨0, 0⟩) hzr2 hbn; obtain ⟨y0, y1, z0, z1⟩ := RB.facts hz3) | skip)))
    all_goals
      first
        | (show Exit.then _ _ _ _ (w3.alloc (.cells #[.int .i64 xb, .int .i64 xn] 23))
           have hE : Below w.heap.size w (w3.alloc (.cells #[.int .i64 xb, .int .i64 xn] 23)) ∧ RB (w3.alloc (.cells #[.int .i64 xb, .int .i64 xn] 23)) w.heap.size ⟨rb, rn⟩ ∧ RB (w3.alloc (.cells #[.int .i64 xb, .int .i64 xn] 23)) w3.heap.size ⟨xb, xn⟩ := ⟨belt h3b _, RB.next h3x ((Below.refl _ _).alloc (Nat.le_refl _) _), RB.new w3 ⟨xb, xn⟩⟩
           generalize w3.alloc (.cells #[.int .i64 xb, .int .i64 xn] 23) = w4 at *
           generalize w3.heap.size = N7 at *)
        | (show Exit.then _ _ _ _ ((w3.setCell ⟨w2.heap.size, 0, none⟩ (.int .i64 xb)).setCell ⟨w2.heap.size, 1, none⟩ (.int .i64 xn))
           have hE := put_end h3b h3x hz3 (by have := h2b.size; omega) (by have := h2x.lt; omega) xb xn
           generalize ((w3.setCell ⟨w2.heap.size, 0, none⟩ (.int .i64 xb)).setCell ⟨w2.heap.size, 1, none⟩ (.int .i64 xn)) = w4 at *
           generalize w2.heap.size = N7 at *)
        | (show Exit.then _ _ _ _ ((w3.setCell ⟨w1.heap.size, 0, none⟩ (.int .i64 xb)).setCell ⟨w1.heap.size, 1, none⟩ (.int .i64 xn))
           have hE := put_end h3b h3x hz3 (by have := hbw.size; omega) (by have := HX.out.lt; omega) xb xn
           generalize ((w3.setCell ⟨w1.heap.size, 0, none⟩ (.int .i64 xb)).setCell ⟨w1.heap.size, 1, none⟩ (.int .i64 xn)) = w4 at *
           generalize w1.heap.size = N7 at *)
      obtain ⟨hb4, hx4, hy4⟩ := hE
      have HB4 := Lib.hid hb4
      have HX4 := Lib.hid hx4
      have HY4 := Lib.hid hy4
      have HR4 := Lib.hid (HRF.out A cap w4 (HR.out.next hb4))
      obtain ⟨f0, f1, _, _⟩ := RB.facts hx4
      clear hb4 hx4 hy4
      go_wp2_with fail
      go_fit HR4.out
      rintro e w5 ⟨rfl, hb5⟩
      have HB5 := Lib.hid (belt (beln HB4.out hb5) (.cells #[.int .i64 xb, .int .i64 xn] 23))
      have hy5 := RB.next HY4.out (belt hb5 (.cells #[.int .i64 xb, .int .i64 xn] 23))
      have hz5 := RB.new w5 ⟨xb, xn⟩
      obtain ⟨y0, y1, _, _⟩ := RB.facts hy5
      obtain ⟨z0, z1, _, _⟩ := RB.facts hz5
      have HA5 := Lib.hid (HAW.out (w5.alloc (.cells #[.int .i64 xb, .int .i64 xn] 23)) (HB5.out))
      clear hb5
      go_wp2_with fail
      go_fit HA5.out
      rintro e w6 ⟨rfl, hb6⟩
      have HB6 := Lib.hid (beln HB5.out hb6)
      clear hb6
      go_wp2
      go_ret
      exact ⟨rfl, HB6.out⟩
end Go.Proofs.YtlndafkmihdbmaaDoor
