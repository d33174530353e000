/-
  The reference's DecodeCap.
  Conditions: none.
-/
import Derived.Test.YtnoegjfokceghaaCad
import Derived.Test.YtnoegjfokceghaaGrs
namespace Go.Proofs.Ytnoegjfokceghaa

open Go.RowKit

def bI (l : List UInt8) (j : Nat) : Int := (bt l j : Int)
theorem bI_lt (l : List UInt8) (j : Nat) : 0 ≤ bI l j ∧ bI l j < 256 := by unfold bI; have := bt_lt l j; omega
/-- The address that stands in the last bytes, the first j of them. -/
def pB (l : List UInt8) : Nat → Int
  | 0 => 0
  | 1 => bI l 5
  | 2 => bI l 5 + bI l 6 * 256
  | 3 => bI l 5 + bI l 6 * 256 + bI l 7 * 65536
  | 4 => bI l 5 + bI l 6 * 256 + bI l 7 * 65536 + bI l 8 * 16777216
  | _ + 5 => bI l 5 + bI l 6 * 256 + bI l 7 * 65536 + bI l 8 * 16777216 + bI l 9 * 4294967296
def rawC (l : List UInt8) : GC := ⟨bI l 0, pB l 5, bI l 1, bI l 2 % 8, bI l 3, bI l 4, decide (8 ≤ bI l 2)⟩
def zC : GC := ⟨0, 0, 0, 0, 0, 0, false⟩
def decP (l : List UInt8) : Prop := l.length = 10 ∧ bI l 2 < 16 ∧ vC (rawC l) = true
instance (l : List UInt8) : Decidable (decP l) := by unfold decP; infer_instance
def decC (l : List UInt8) : GC := if decP l then rawC l else zC
def decE (l : List UInt8) : Int := if decP l then 0 else 14
set_option maxRecDepth 20000 in
set_option maxHeartbeats 4000000 in
theorem rDec_any (l : List UInt8) (A : Option Addr) (c : Nat) (w : World) (h : Byt w w.heap.size A l.length l) :
    Calls Try.prog 60 #[.slice A l.length c] w fun e w' => e = .returned (.tuple #[(decC l).val, .int .i64 (decE l)]) ∧ Below w.heap.size w w' := by
  have HV := Lib.hid fun W => rVC_any (rawC l) W
  have HY : Hid (¬ decP l → decC l = zC ∧ decE l = 14) := Lib.hid fun h => by unfold decC decE; rw [if_neg h, if_neg h]; exact ⟨rfl, rfl⟩
  have HN : Hid (decP l → decC l = rawC l ∧ decE l = 0) := Lib.hid fun h => by unfold decC decE; rw [if_pos h, if_pos h]; exact ⟨rfl, rfl⟩
  have HP : Hid (decP l ↔ l.length = 10 ∧ bI l 2 < 16 ∧ vC (rawC l) = true) := Lib.hid Iff.rfl
  generalize decC l = q at *
  generalize decE l = er at *
  by_cases h10 : l.length = 10
  rotate_left
  · have fb : ((l.length : Int) == 10) = false := by rw [beq_eq_false_iff_ne]; omega
    have fb2 : ((l.length : Int) != 10) = true := by rw [bne, fb]; rfl
    obtain ⟨e1, e2⟩ := HY.out fun hp => h10 (HP.out.1 hp).1
    subst e1 e2
    simp only [GC.val, zC]
    clear h10 HV HN HP h fb HY
    generalize (l.length : Nat) = n at *
    go_enter Try.func60, Try.ntmps60
    go_wp2
    refine bodyPost_ret (v := .tuple #[.agg #[.int .i64 0, .int .i64 0, .int .i64 0, .int .i64 0, .int .i64 0, .int .i64 0, .bool false], .int .i64 14]) (by simp [results, Try.results60, go_sem]) rfl ?_
    exact ⟨rfl, belt (Below.refl _ w) _⟩
  rw [h10] at h ⊢
  obtain ⟨b, off, rfl, hb, hc⟩ := h.at_ (by omega)
  have c0 : w.cell? ⟨b, off, none⟩ = some (.int .u8 (bI l 0)) := hc 0 (by omega)
  have c1 : w.cell? ⟨b, off + 1, none⟩ = some (.int .u8 (bI l 1)) := hc 1 (by omega)
  have c2 : w.cell? ⟨b, off + 2, none⟩ = some (.int .u8 (bI l 2)) := hc 2 (by omega)
  have c3 : w.cell? ⟨b, off + 3, none⟩ = some (.int .u8 (bI l 3)) := hc 3 (by omega)
  have c4 : w.cell? ⟨b, off + 4, none⟩ = some (.int .u8 (bI l 4)) := hc 4 (by omega)
  have c5 : w.cell? ⟨b, off + 5, none⟩ = some (.int .u8 (bI l 5)) := hc 5 (by omega)
  have c6 : w.cell? ⟨b, off + 6, none⟩ = some (.int .u8 (bI l 6)) := hc 6 (by omega)
  have c7 : w.cell? ⟨b, off + 7, none⟩ = some (.int .u8 (bI l 7)) := hc 7 (by omega)
  have c8 : w.cell? ⟨b, off + 8, none⟩ = some (.int .u8 (bI l 8)) := hc 8 (by omega)
  have c9 : w.cell? ⟨b, off + 9, none⟩ = some (.int .u8 (bI l 9)) := hc 9 (by omega)
  have b0 := bI_lt l 0
  have b1 := bI_lt l 1
  have b2 := bI_lt l 2
  have b3 := bI_lt l 3
  have b4 := bI_lt l 4
  have b5 := bI_lt l 5
  have b6 := bI_lt l 6
  have b7 := bI_lt l 7
  have b8 := bI_lt l 8
  have b9 := bI_lt l 9
  have P0 : Hid (pB l 0 = 0) := Lib.hid rfl
  have P1 : Hid (pB l 1 = bI l 5) := Lib.hid rfl
  have P2 : Hid (pB l 2 = bI l 5 + bI l 6 * 256) := Lib.hid rfl
  have P3 : Hid (pB l 3 = bI l 5 + bI l 6 * 256 + bI l 7 * 65536) := Lib.hid rfl
  have P4 : Hid (pB l 4 = bI l 5 + bI l 6 * 256 + bI l 7 * 65536 + bI l 8 * 16777216) := Lib.hid rfl
  have P5 : Hid (pB l 5 = bI l 5 + bI l 6 * 256 + bI l 7 * 65536 + bI l 8 * 16777216 + bI l 9 * 4294967296) := Lib.hid rfl
  have HR : Hid (rawC l = ⟨bI l 0, pB l 5, bI l 1, bI l 2 % 8, bI l 3, bI l 4, decide (8 ≤ bI l 2)⟩) := Lib.hid rfl
  generalize rawC l = rc at *
  generalize bI l = f at *
  generalize pB l = g at *
  generalize f 0 = x0 at *
  generalize f 1 = x1 at *
  generalize f 2 = x2 at *
  generalize f 3 = x3 at *
  generalize f 4 = x4 at *
  generalize f 5 = x5 at *
  generalize f 6 = x6 at *
  generalize f 7 = x7 at *
  generalize f 8 = x8 at *
  generalize f 9 = x9 at *
  clear hc h
  go_enter Try.func60, Try.ntmps60
  go_wp2
  go_loopw [4, 5] (fun v4 v5 wr => ∃ j : Nat, v5 = .int .i64 j ∧ j ≤ 5 ∧ v4 = .int .i64 (g j) ∧ wr = w.alloc (.cells #[.int .i64 0, .int .i64 0, .int .i64 0, .int .i64 0, .int .i64 0, .int .i64 0, .bool false] 26)) (fun _ v5 _ => 5 - (intOf v5).toNat)
  case atStart => exact ⟨0, rfl, by omega, by rw [P0.out], rfl⟩
  case round =>
    obtain ⟨j, rfl, hj, rfl, rfl⟩ := hrel
    rcases (show j = 0 ∨ j = 1 ∨ j = 2 ∨ j = 3 ∨ j = 4 ∨ j = 5 by omega) with rfl | rfl | rfl | rfl | rfl | rfl
    · rw [P0.out]
      go_wp2
      go_roundw
      case rel => exact ⟨1, by go_num, by omega, by rw [P1.out], trivial⟩
      case measure => simp [intOf]
    · rw [P1.out]
      go_wp2
      go_roundw
      case rel => exact ⟨2, by go_num, by omega, by rw [P2.out], trivial⟩
      case measure => simp [intOf]
    · rw [P2.out]
      go_wp2
      go_roundw
      case rel => exact ⟨3, by go_num, by omega, by rw [P3.out], trivial⟩
      case measure => simp [intOf]
    · rw [P3.out]
      go_wp2
      go_roundw
      case rel => exact ⟨4, by go_num, by omega, by rw [P4.out], trivial⟩
      case measure => simp [intOf]
    · rw [P4.out]
      go_wp2
      go_roundw
      case rel => exact ⟨5, by go_num, by omega, by rw [P5.out], trivial⟩
      case measure => simp [intOf]
    · go_wp2
      generalize hg5 : g 5 = g5 at *
      generalize hw1 : w.alloc (.cells #[.int .i64 0, .int .i64 0, .int .i64 0, .int .i64 0, .int .i64 0, .int .i64 0, .bool false] 26) = w1 at *
      have HW1 : Hid (Below w.heap.size w w1) := Lib.hid (by rw [← hw1]; exact belt (Below.refl _ w) _)
      have HZ : Hid (CB w1 w.heap.size zC) := Lib.hid (by rw [← hw1]; exact CB.new w zC)
      have hsz := HZ.out.lt
      have hb2 : b < w1.heap.size := by omega
      have d0 : w1.cell? ⟨b, off, none⟩ = some (.int .u8 x0) := (HW1.out.cell (p := ⟨b, off, none⟩) hb).trans c0
      have d1 : w1.cell? ⟨b, off + 1, none⟩ = some (.int .u8 x1) := (HW1.out.cell (p := ⟨b, off + 1, none⟩) hb).trans c1
      have d2 : w1.cell? ⟨b, off + 2, none⟩ = some (.int .u8 x2) := (HW1.out.cell (p := ⟨b, off + 2, none⟩) hb).trans c2
      have d3 : w1.cell? ⟨b, off + 3, none⟩ = some (.int .u8 x3) := (HW1.out.cell (p := ⟨b, off + 3, none⟩) hb).trans c3
      have d4 : w1.cell? ⟨b, off + 4, none⟩ = some (.int .u8 x4) := (HW1.out.cell (p := ⟨b, off + 4, none⟩) hb).trans c4
      clear hw1 c0 c1 c2 c3 c4 c5 c6 c7 c8 c9
      have hS := (Below.refl w1.heap.size w1).drew
      refine wp_region_growS (S := fun W => Below w1.heap.size w1 W) [(0, true), (1, true), (2, true), (3, true), (4, true), (5, true), (6, true), (7, true), (8, true), (9, true), (10, true), (11, true), (12, true), (13, true), (14, true), (15, true), (16, true), (17, true), (18, true), (19, true), (20, true), (21, true), (22, true), (23, true), (24, true), (25, true), (26, true), (27, true), (28, false), (29, false)] (by kernel_rfl) (by kernel_rfl) (by kernel_rfl) (by kernel_rfl) (by intro c a d v w h; cases d <;> exact h) hS ?_
      iterate 28
        (first
          | (refine wpGrowS_float (v := ?_) (by simp only [List.getElem?_toArray, List.getElem?_cons_succ, List.getElem?_cons_zero]; rfl) (by rfl) ?_ ?_
             rotate_left
             · (intro W hW; have t0 := (hW.cell (p := ⟨b, off, none⟩) hb2).trans d0; have t1 := (hW.cell (p := ⟨b, off + 1, none⟩) hb2).trans d1; have t2 := (hW.cell (p := ⟨b, off + 2, none⟩) hb2).trans d2; have t3 := (hW.cell (p := ⟨b, off + 3, none⟩) hb2).trans d3; have t4 := (hW.cell (p := ⟨b, off + 4, none⟩) hb2).trans d4; (try simp only at *); go_simp; try with_reducible rfl)
             simp only [Act.put, List.setIfInBounds_toArray, List.set_cons_zero, List.set_cons_succ])
          | (refine wpGrowS_skip (by simp only [List.getElem?_toArray, List.getElem?_cons_succ, List.getElem?_cons_zero]; rfl) (by rfl) ?_
             simp only [Act.put, List.setIfInBounds_toArray, List.set_cons_zero, List.set_cons_succ]))
      refine wpGrowS_call (by simp only [List.getElem?_toArray, List.getElem?_cons_succ, List.getElem?_cons_zero]; rfl) (by rfl) fun K hK => ?_
      go_simp
      have hS : Below w1.heap.size w1 (w1.drew.alloc (.cells #[.int .i64 0, .int .i64 0, .int .i64 0, .int .i64 0, .int .i64 0, .int .i64 0, .bool false] 26)) := belt (Below.refl _ w1).drew _
      refine hK _ _ hS ?_
      clear hK K
      try simp only [Act.put, List.setIfInBounds_toArray, List.set_cons_zero, List.set_cons_succ]
      refine wpGrowS_call (by simp only [List.getElem?_toArray, List.getElem?_cons_succ, List.getElem?_cons_zero]; rfl) (by rfl) fun K hK => ?_
      go_simp
      refine hK _ _ (belt (Below.refl _ w1) _).drew ?_
      clear hK K
      try simp only [Act.put, List.setIfInBounds_toArray, List.set_cons_zero, List.set_cons_succ]
      refine wpGrowS_nil ?_
      have e0 : IntKind.i64.wrap x0 = x0 := IntWalk.i64_in _ (by omega)
      have e1 : IntKind.i64.wrap x1 = x1 := IntWalk.i64_in _ (by omega)
      have e2 : IntKind.i64.wrap x2 = x2 := IntWalk.i64_in _ (by omega)
      have e3 : IntKind.i64.wrap x3 = x3 := IntWalk.i64_in _ (by omega)
      have e4 : IntKind.i64.wrap x4 = x4 := IntWalk.i64_in _ (by omega)
      have em : x2.tmod 8 = x2 % 8 := Int.tmod_eq_emod_of_nonneg (by omega)
      simp only [e0, e1, e2, e3, e4, em]
      generalize hw2 : (w1.alloc (.cells #[.int .i64 x0, .int .i64 g5, .int .i64 x1, .int .i64 (x2 % 8), .int .i64 x3, .int .i64 x4, .bool (decide (8 ≤ x2))] 26)).drew = w2 at *
      have HB2 : Hid (Below w1.heap.size w1 w2) := Lib.hid (by rw [← hw2]; exact (belt (Below.refl _ w1) _).drew)
      have HX2 : Hid (CB w2 w1.heap.size rc) := Lib.hid (by rw [← hw2, HR.out]; exact (CB.new w1 ⟨x0, g5, x1, x2 % 8, x3, x4, decide (8 ≤ x2)⟩).next (Below.refl _ _).drew)
      have c2 : w2.cell? ⟨b, off + 2, none⟩ = some (.int .u8 x2) := (HB2.out.cell (p := ⟨b, off + 2, none⟩) hb2).trans d2
      have hb3 : b < w2.heap.size := Nat.lt_of_lt_of_le hb2 HB2.out.size
      have HZ2 := Lib.hid (HZ.out.next HB2.out)
      have HBW := Lib.hid (beln HW1.out HB2.out)
      clear hw2 hS d0 d1 d2 d3 d4 e0 e1 e3 e4 em hg5 HR P0 P1 P2 P3 P4 P5 hj
      have HS : ∀ (W : World) (p : Value), Below w.heap.size w W → ∀ j, Below w.heap.size w (W.setCell ⟨w.heap.size, j, none⟩ p) := fun W p hb j => hb.setCell (p := ⟨w.heap.size, j, none⟩) (Nat.le_refl _) p
      have HSC := Lib.hid HS
      clear HS
      by_cases h16 : x2 < 16
      rotate_left
      · obtain ⟨q1, q2⟩ := HY.out fun hp => h16 (HP.out.1 hp).2.1
        subst q1 q2
        have f16 : decide (16 ≤ x2) = true := by simp; omega
        clear h16 HY HN HP HV
        obtain ⟨z0, z1, z2, z3, z4, z5, z6⟩ := HZ2.out.cells
        have zf := HZ2.out.frz
        have hzl := HZ2.out.lt
        simp only [zC] at *
        go_wp2
        refine bodyPost_ret (v := .tuple #[.agg #[.int .i64 0, .int .i64 0, .int .i64 0, .int .i64 0, .int .i64 0, .int .i64 0, .bool false], .int .i64 14]) (by simp [results, Try.results60, go_sem, z0, z1, z2, z3, z4, z5, z6]) rfl ?_
        exact ⟨rfl, HSC.out _ _ (HSC.out _ _ (HSC.out _ _ (HSC.out _ _ (HSC.out _ _ (HSC.out _ _ (HSC.out _ _ HBW.out _) _) _) _) _) _) _⟩
      have f16 : decide (16 ≤ x2) = false := by simp; omega
      have HVC := Lib.hid (HV.out w2)
      rcases hvc : vC rc with _ | _
      · obtain ⟨q1, q2⟩ := HY.out fun hp => by rw [(HP.out.1 hp).2.2] at hvc; cases hvc
        rw [hvc] at HVC
        subst q1 q2
        clear h16 HY HN HP HV hvc
        obtain ⟨rk, rb, rn, rr, rw_, rl, rd⟩ := rc
        obtain ⟨t0, t1, t2, t3, t4, t5, t6⟩ := HX2.out.cells
        simp only [GC.val] at *
        have htl := HX2.out.lt
        go_wp2_with fail
        go_fit HVC.out
        rintro e w3 ⟨rfl, hb3⟩
        have HB3 := Lib.hid (beln HBW.out hb3)
        have HZ3 := Lib.hid (HZ2.out.next hb3)
        clear hb3 t0 t1 t2 t3 t4 t5 t6 HVC
        obtain ⟨z0, z1, z2, z3, z4, z5, z6⟩ := HZ3.out.cells
        have zf := HZ3.out.frz
        have hzl := HZ3.out.lt
        simp only [zC] at z0 z1 z2 z3 z4 z5 z6 ⊢
        go_wp2
        refine bodyPost_ret (v := .tuple #[.agg #[.int .i64 0, .int .i64 0, .int .i64 0, .int .i64 0, .int .i64 0, .int .i64 0, .bool false], .int .i64 14]) (by simp [results, Try.results60, go_sem, z0, z1, z2, z3, z4, z5, z6]) rfl ?_
        exact ⟨rfl, HSC.out _ _ (HSC.out _ _ (HSC.out _ _ (HSC.out _ _ (HSC.out _ _ (HSC.out _ _ (HSC.out _ _ HB3.out _) _) _) _) _) _) _⟩
      · obtain ⟨q1, q2⟩ := HN.out (HP.out.2 ⟨by omega, h16, hvc⟩)
        rw [hvc] at HVC
        subst q1 q2
        clear h16 HY HN HP HV hvc
        obtain ⟨rk, rb, rn, rr, rw_, rl, rd⟩ := q
        obtain ⟨t0, t1, t2, t3, t4, t5, t6⟩ := HX2.out.cells
        simp only [GC.val] at *
        have htl := HX2.out.lt
        go_wp2_with fail
        go_fit HVC.out
        rintro e w3 ⟨rfl, hb3⟩
        have HB3 := Lib.hid (beln HBW.out hb3)
        have HZ3 := Lib.hid (HZ2.out.next hb3)
        have HX3 := Lib.hid (HX2.out.next hb3)
        clear hb3 t0 t1 t2 t3 t4 t5 t6 HVC
        obtain ⟨t0, t1, t2, t3, t4, t5, t6⟩ := HX3.out.cells
        obtain ⟨z0, z1, z2, z3, z4, z5, z6⟩ := HZ3.out.cells
        have zf := HZ3.out.frz
        have hzl := HZ3.out.lt
        have htl := HX3.out.lt
        simp only [zC] at z0 z1 z2 z3 z4 z5 z6 t0 t1 t2 t3 t4 t5 t6
        go_wp2
        refine bodyPost_ret (v := .tuple #[.agg #[.int .i64 rk, .int .i64 rb, .int .i64 rn, .int .i64 rr, .int .i64 rw_, .int .i64 rl, .bool rd], .int .i64 0]) (by simp [results, Try.results60, go_sem, z0, z1, z2, z3, z4, z5, z6]) rfl ?_
        exact ⟨rfl, HSC.out _ _ (HSC.out _ _ (HSC.out _ _ (HSC.out _ _ (HSC.out _ _ (HSC.out _ _ (HSC.out _ _ HB3.out _) _) _) _) _) _) _⟩
end Go.Proofs.Ytnoegjfokceghaa
