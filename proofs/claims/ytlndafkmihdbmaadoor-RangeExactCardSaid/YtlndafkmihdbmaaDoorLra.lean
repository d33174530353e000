/-
  The law RangeExact returns true.
  Conditions: none.
-/
import Derived.Test.YtlndafkmihdbmaaDoorRgl
namespace Go.Proofs.YtlndafkmihdbmaaDoor
open Go.RowKit

set_option maxRecDepth 20000 in
set_option maxHeartbeats 4000000 in
theorem lexact10 (a b : GR) (w : World) (hG : T10 w) : Calls Tryd.prog 3 #[a.val, b.val] w fun e w' => e = .returned (.bool true) ∧ Below w.heap.size w w' := by
  have HPV := Lib.hid fun W => pValid_any a W
  have HRV := Lib.hid fun W => rValid_any a W
  have HPE := Lib.hid fun W => pEnd_any a W
  have HRE := Lib.hid fun W => rEnd_any a W
  have HPC := Lib.hid fun W => pCon_any a b W
  have HRC := Lib.hid fun W => rCon_any a b W
  have HPO := Lib.hid fun W => pOv_any a b W
  have HRO := Lib.hid fun W => rOv_any a b W
  have HAW := Lib.hid fun W hb => awake10 W (T10.next hG hb)
  have HPH := Lib.hid fun W => pHalves_any a W
  have HRH := Lib.hid fun W => rHalves_any a W
  obtain ⟨x, y, ok, hq⟩ : ∃ (x y : GR) (ok : Bool), halvesV a = .tuple #[x.val, y.val, .bool ok] := by
    unfold halvesV
    split
    · exact ⟨_, _, true, rfl⟩
    · exact ⟨_, _, false, rfl⟩
  rw [hq] at HPH HRH
  have HA0 : Hid (RB ((w.alloc (.cells #[.int .i64 a.base, .int .i64 a.bits] 23)).alloc (.cells #[.int .i64 b.base, .int .i64 b.bits] 23)) w.heap.size a) := Lib.hid ((RB.new w a).next ((Below.refl _ _).alloc (Nat.le_refl _) _))
  have HA1 : Hid (RB ((w.alloc (.cells #[.int .i64 a.base, .int .i64 a.bits] 23)).alloc (.cells #[.int .i64 b.base, .int .i64 b.bits] 23)) (w.heap.size + 1) b) := Lib.hid (by
    have h := RB.new (w.alloc (.cells #[.int .i64 a.base, .int .i64 a.bits] 23)) b
    simpa using h)
  have HN0 : Hid (∀ W : World, RB ((W.alloc (.cells #[.int .i64 x.base, .int .i64 x.bits] 23)).alloc (.cells #[.int .i64 y.base, .int .i64 y.bits] 23)) W.heap.size x) := Lib.hid fun W => (RB.new W x).next ((Below.refl _ _).alloc (Nat.le_refl _) _)
  have HN1 : Hid (∀ W : World, RB ((W.alloc (.cells #[.int .i64 x.base, .int .i64 x.bits] 23)).alloc (.cells #[.int .i64 y.base, .int .i64 y.bits] 23)) (W.heap.size + 1) y) := Lib.hid fun W => by
    have h := RB.new (W.alloc (.cells #[.int .i64 x.base, .int .i64 x.bits] 23)) y
    simpa using h
  generalize vR a = va at *
  generalize endR a = ea at *
  generalize conR a b = cv at *
  generalize ovR a b = ov at *
  obtain ⟨ab, an⟩ := a
  obtain ⟨bb, bn⟩ := b
  obtain ⟨xb, xn⟩ := x
  obtain ⟨yb, yn⟩ := y
  simp only [GR.val] at *
  clear hq
  go_enter Tryd.func3, Tryd.ntmps3
  go_wp2_with fail
  go_fit (HPH.out _)
  rintro e w1 ⟨rfl, hb1⟩
  have r0 := RB.next HA0.out hb1
  have r1 := RB.next HA1.out hb1
  have hbw1 := belt (belt (bela (belt (Below.refl _ w) _) hb1) (.cells #[.int .i64 xb, .int .i64 xn] 23)) (.cells #[.int .i64 yb, .int .i64 yn] 23)
  have hal := belt (belt (Below.refl _ w1) (.cells #[.int .i64 xb, .int .i64 xn] 23)) (.cells #[.int .i64 yb, .int .i64 yn] 23)
  have s0 := Lib.hid (RB.next r0 hal)
  have s1 := Lib.hid (RB.next r1 hal)
  have s2 := Lib.hid (HN0.out w1)
  have s3 := Lib.hid (HN1.out w1)
  obtain ⟨c0, c1, _, _⟩ := RB.facts s0.out
  have HB1 := Lib.hid hbw1
  clear hb1 r0 r1 hal hbw1
  go_wp2_with fail
  go_fit (HRH.out _)
  rintro e w2 ⟨rfl, hb2⟩
  have HB2 := Lib.hid (belt (belt (beln HB1.out hb2) (.cells #[.int .i64 xb, .int .i64 xn] 23)) (.cells #[.int .i64 yb, .int .i64 yn] 23))
  have hal := belt (belt (Below.refl _ w2) (.cells #[.int .i64 xb, .int .i64 xn] 23)) (.cells #[.int .i64 yb, .int .i64 yn] 23)
  have t0 := Lib.hid (RB.next (RB.next s0.out hb2) hal)
  have t1 := Lib.hid (RB.next (RB.next s1.out hb2) hal)
  have t2 := Lib.hid (RB.next (RB.next s2.out hb2) hal)
  have t3 := Lib.hid (RB.next (RB.next s3.out hb2) hal)
  have t4 := Lib.hid (HN0.out w2)
  have t5 := Lib.hid (HN1.out w2)
  clear hb2 hal c0 c1 s0 s1 s2 s3 HN0 HN1 HPH HRH HA0 HA1
  go_upto_region 3 with fail
  generalize ((w2.alloc (.cells #[.int .i64 xb, .int .i64 xn] 23)).alloc (.cells #[.int .i64 yb, .int .i64 yn] 23)) = w3 at *
  have hr0 : RB w3.drew _ _ := t0.out
  have hr1 : RB w3.drew _ _ := t1.out
  have hr2 : RB w3.drew _ _ := t2.out
  have hr3 : RB w3.drew _ _ := t3.out
  have hr4 : RB w3.drew _ _ := t4.out
  have hr5 : RB w3.drew _ _ := t5.out
  have hbw0 := HB2.out.drew
  refine wp_region_grow [(0, true), (2, true), (1, false), (3, false), (4, true), (5, true), (6, true), (8, true), (7, false), (9, false), (10, true), (11, true), (12, true), (13, true), (14, true), (16, true), (17, true), (15, false), (18, false), (19, true), (20, true), (21, true), (22, true), (23, true), (25, true), (26, true), (24, false), (27, false), (28, true), (29, true), (30, true), (31, true), (32, true), (33, true), (34, true), (35, true), (36, true), (37, true), (38, true), (39, true), (40, true), (41, true), (42, true), (43, true), (44, true), (45, true), (46, false), (47, true), (48, true)] (by kernel_rfl) (by kernel_rfl) (by kernel_rfl) (by kernel_rfl) (by intro c a d v w h; cases d <;> exact h) ?_
  repeat (first
    | (refine wpGrow_float (v := ?_) (by simp only [List.getElem?_toArray, List.getElem?_cons_succ, List.getElem?_cons_zero]; rfl) (by rfl) ?_ ?_
       rotate_left
       · (intro W hW; obtain ⟨u0, v0, _, _⟩ := RB.facts (RB.next (N := w.heap.size) (r := ⟨ab, an⟩) (by assumption) hW); obtain ⟨u1, v1, _, _⟩ := RB.facts (RB.next (N := (w.heap.size + 1)) (r := ⟨bb, bn⟩) (by assumption) hW); obtain ⟨u2, v2, _, _⟩ := RB.facts (RB.next (N := w1.heap.size) (r := ⟨xb, xn⟩) (by assumption) hW); obtain ⟨u3, v3, _, _⟩ := RB.facts (RB.next (N := (w1.heap.size + 1)) (r := ⟨yb, yn⟩) (by assumption) hW); obtain ⟨u4, v4, _, _⟩ := RB.facts (RB.next (N := w2.heap.size) (r := ⟨xb, xn⟩) (by assumption) hW); obtain ⟨u5, v5, _, _⟩ := RB.facts (RB.next (N := (w2.heap.size + 1)) (r := ⟨yb, yn⟩) (by assumption) hW); go_simp; try with_reducible rfl)
       simp only [Act.put, List.setIfInBounds_toArray, List.set_cons_zero, List.set_cons_succ])
    | (refine wpGrow_skip (by simp only [List.getElem?_toArray, List.getElem?_cons_succ, List.getElem?_cons_zero]; rfl) (by rfl) ?_
       simp only [Act.put, List.setIfInBounds_toArray, List.set_cons_zero, List.set_cons_succ])
    | (refine wpGrow_pass (by simp only [List.getElem?_toArray, List.getElem?_cons_succ, List.getElem?_cons_zero]; rfl) (by rfl) ?_
       simp only [Act.put, List.setIfInBounds_toArray, List.set_cons_zero, List.set_cons_succ])
    | (refine wpGrow_call (by simp only [List.getElem?_toArray, List.getElem?_cons_succ, List.getElem?_cons_zero]; rfl) (by rfl) fun K hK => ?_
       go_simp
       go_fit (HPV.out _)
       rintro e wn ⟨rfl, hbn⟩
       have hx0 := RB.next (N := w.heap.size) (r := ⟨ab, an⟩) (by assumption) hbn; have hx1 := RB.next (N := (w.heap.size + 1)) (r := ⟨bb, bn⟩) (by assumption) hbn; have hx2 := RB.next (N := w1.heap.size) (r := ⟨xb, xn⟩) (by assumption) hbn; have hx3 := RB.next (N := (w1.heap.size + 1)) (r := ⟨yb, yn⟩) (by assumption) hbn; have hx4 := RB.next (N := w2.heap.size) (r := ⟨xb, xn⟩) (by assumption) hbn; have hx5 := RB.next (N := (w2.heap.size + 1)) (r := ⟨yb, yn⟩) (by assumption) hbn; have hbw := beln (w := w) (by assumption) hbn
       go_simp
       refine hK _ _ hbn ?_
       clear hK K)
    | (refine wpGrow_call (by simp only [List.getElem?_toArray, List.getElem?_cons_succ, List.getElem?_cons_zero]; rfl) (by rfl) fun K hK => ?_
       go_simp
       go_fit (HRV.out _)
       rintro e wn ⟨rfl, hbn⟩
       have hx0 := RB.next (N := w.heap.size) (r := ⟨ab, an⟩) (by assumption) hbn; have hx1 := RB.next (N := (w.heap.size + 1)) (r := ⟨bb, bn⟩) (by assumption) hbn; have hx2 := RB.next (N := w1.heap.size) (r := ⟨xb, xn⟩) (by assumption) hbn; have hx3 := RB.next (N := (w1.heap.size + 1)) (r := ⟨yb, yn⟩) (by assumption) hbn; have hx4 := RB.next (N := w2.heap.size) (r := ⟨xb, xn⟩) (by assumption) hbn; have hx5 := RB.next (N := (w2.heap.size + 1)) (r := ⟨yb, yn⟩) (by assumption) hbn; have hbw := beln (w := w) (by assumption) hbn
       go_simp
       refine hK _ _ hbn ?_
       clear hK K)
    | (refine wpGrow_call (by simp only [List.getElem?_toArray, List.getElem?_cons_succ, List.getElem?_cons_zero]; rfl) (by rfl) fun K hK => ?_
       go_simp
       go_fit (HPE.out _)
       rintro e wn ⟨rfl, hbn⟩
       have hx0 := RB.next (N := w.heap.size) (r := ⟨ab, an⟩) (by assumption) hbn; have hx1 := RB.next (N := (w.heap.size + 1)) (r := ⟨bb, bn⟩) (by assumption) hbn; have hx2 := RB.next (N := w1.heap.size) (r := ⟨xb, xn⟩) (by assumption) hbn; have hx3 := RB.next (N := (w1.heap.size + 1)) (r := ⟨yb, yn⟩) (by assumption) hbn; have hx4 := RB.next (N := w2.heap.size) (r := ⟨xb, xn⟩) (by assumption) hbn; have hx5 := RB.next (N := (w2.heap.size + 1)) (r := ⟨yb, yn⟩) (by assumption) hbn; have hbw := beln (w := w) (by assumption) hbn
       go_simp
       refine hK _ _ hbn ?_
       clear hK K)
    | (refine wpGrow_call (by simp only [List.getElem?_toArray, List.getElem?_cons_succ, List.getElem?_cons_zero]; rfl) (by rfl) fun K hK => ?_
       go_simp
       go_fit (HRE.out _)
       rintro e wn ⟨rfl, hbn⟩
       have hx0 := RB.next (N := w.heap.size) (r := ⟨ab, an⟩) (by assumption) hbn; have hx1 := RB.next (N := (w.heap.size + 1)) (r := ⟨bb, bn⟩) (by assumption) hbn; have hx2 := RB.next (N := w1.heap.size) (r := ⟨xb, xn⟩) (by assumption) hbn; have hx3 := RB.next (N := (w1.heap.size + 1)) (r := ⟨yb, yn⟩) (by assumption) hbn; have hx4 := RB.next (N := w2.heap.size) (r := ⟨xb, xn⟩) (by assumption) hbn; have hx5 := RB.next (N := (w2.heap.size + 1)) (r := ⟨yb, yn⟩) (by assumption) hbn; have hbw := beln (w := w) (by assumption) hbn
       go_simp
       refine hK _ _ hbn ?_
       clear hK K)
    | (refine wpGrow_call (by simp only [List.getElem?_toArray, List.getElem?_cons_succ, List.getElem?_cons_zero]; rfl) (by rfl) fun K hK => ?_
       go_simp
       go_fit (HPC.out _)
       rintro e wn ⟨rfl, hbn⟩
       have hx0 := RB.next (N := w.heap.size) (r := ⟨ab, an⟩) (by assumption) hbn; have hx1 := RB.next (N := (w.heap.size + 1)) (r := ⟨bb, bn⟩) (by assumption) hbn; have hx2 := RB.next (N := w1.heap.size) (r := ⟨xb, xn⟩) (by assumption) hbn; have hx3 := RB.next (N := (w1.heap.size + 1)) (r := ⟨yb, yn⟩) (by assumption) hbn; have hx4 := RB.next (N := w2.heap.size) (r := ⟨xb, xn⟩) (by assumption) hbn; have hx5 := RB.next (N := (w2.heap.size + 1)) (r := ⟨yb, yn⟩) (by assumption) hbn; have hbw := beln (w := w) (by assumption) hbn
       go_simp
       refine hK _ _ hbn ?_
       clear hK K)
    | (refine wpGrow_call (by simp only [List.getElem?_toArray, List.getElem?_cons_succ, List.getElem?_cons_zero]; rfl) (by rfl) fun K hK => ?_
       go_simp
       go_fit (HRC.out _)
       rintro e wn ⟨rfl, hbn⟩
       have hx0 := RB.next (N := w.heap.size) (r := ⟨ab, an⟩) (by assumption) hbn; have hx1 := RB.next (N := (w.heap.size + 1)) (r := ⟨bb, bn⟩) (by assumption) hbn; have hx2 := RB.next (N := w1.heap.size) (r := ⟨xb, xn⟩) (by assumption) hbn; have hx3 := RB.next (N := (w1.heap.size + 1)) (r := ⟨yb, yn⟩) (by assumption) hbn; have hx4 := RB.next (N := w2.heap.size) (r := ⟨xb, xn⟩) (by assumption) hbn; have hx5 := RB.next (N := (w2.heap.size + 1)) (r := ⟨yb, yn⟩) (by assumption) hbn; have hbw := beln (w := w) (by assumption) hbn
       go_simp
       refine hK _ _ hbn ?_
       clear hK K)
    | (refine wpGrow_call (by simp only [List.getElem?_toArray, List.getElem?_cons_succ, List.getElem?_cons_zero]; rfl) (by rfl) fun K hK => ?_
       go_simp
       go_fit (HPO.out _)
       rintro e wn ⟨rfl, hbn⟩
       have hx0 := RB.next (N := w.heap.size) (r := ⟨ab, an⟩) (by assumption) hbn; have hx1 := RB.next (N := (w.heap.size + 1)) (r := ⟨bb, bn⟩) (by assumption) hbn; have hx2 := RB.next (N := w1.heap.size) (r := ⟨xb, xn⟩) (by assumption) hbn; have hx3 := RB.next (N := (w1.heap.size + 1)) (r := ⟨yb, yn⟩) (by assumption) hbn; have hx4 := RB.next (N := w2.heap.size) (r := ⟨xb, xn⟩) (by assumption) hbn; have hx5 := RB.next (N := (w2.heap.size + 1)) (r := ⟨yb, yn⟩) (by assumption) hbn; have hbw := beln (w := w) (by assumption) hbn
       go_simp
       refine hK _ _ hbn ?_
       clear hK K)
    | (refine wpGrow_call (by simp only [List.getElem?_toArray, List.getElem?_cons_succ, List.getElem?_cons_zero]; rfl) (by rfl) fun K hK => ?_
       go_simp
       go_fit (HRO.out _)
       rintro e wn ⟨rfl, hbn⟩
       have hx0 := RB.next (N := w.heap.size) (r := ⟨ab, an⟩) (by assumption) hbn; have hx1 := RB.next (N := (w.heap.size + 1)) (r := ⟨bb, bn⟩) (by assumption) hbn; have hx2 := RB.next (N := w1.heap.size) (r := ⟨xb, xn⟩) (by assumption) hbn; have hx3 := RB.next (N := (w1.heap.size + 1)) (r := ⟨yb, yn⟩) (by assumption) hbn; have hx4 := RB.next (N := w2.heap.size) (r := ⟨xb, xn⟩) (by assumption) hbn; have hx5 := RB.next (N := (w2.heap.size + 1)) (r := ⟨yb, yn⟩) (by assumption) hbn; have hbw := beln (w := w) (by assumption) hbn
       go_simp
       refine hK _ _ hbn ?_
       clear hK K)
    | (refine wpGrow_call (by simp only [List.getElem?_toArray, List.getElem?_cons_succ, List.getElem?_cons_zero]; rfl) (by rfl) fun K hK => ?_
       go_simp
       go_fit (HAW.out _ (by assumption))
       rintro e wn ⟨rfl, hbn⟩
       have hx0 := RB.next (N := w.heap.size) (r := ⟨ab, an⟩) (by assumption) hbn; have hx1 := RB.next (N := (w.heap.size + 1)) (r := ⟨bb, bn⟩) (by assumption) hbn; have hx2 := RB.next (N := w1.heap.size) (r := ⟨xb, xn⟩) (by assumption) hbn; have hx3 := RB.next (N := (w1.heap.size + 1)) (r := ⟨yb, yn⟩) (by assumption) hbn; have hx4 := RB.next (N := w2.heap.size) (r := ⟨xb, xn⟩) (by assumption) hbn; have hx5 := RB.next (N := (w2.heap.size + 1)) (r := ⟨yb, yn⟩) (by assumption) hbn; have hbw := beln (w := w) (by assumption) hbn
       go_simp
       refine hK _ _ hbn ?_
       clear hK K))
  try refine wpGrow_nil ?_
  have HEND := Lib.hid hbw
  go_wp2
  go_ret
  exact ⟨rfl, HEND.out⟩
end Go.Proofs.YtlndafkmihdbmaaDoor
