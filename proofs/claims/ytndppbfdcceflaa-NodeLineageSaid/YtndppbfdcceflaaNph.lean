/-
  The program's Child.
  Conditions: none.
-/
import Derived.Test.YtndppbfdcceflaaNpg
namespace Go.Proofs.Ytndppbfdcceflaa

open Go.RowKit

set_option maxRecDepth 20000 in
set_option maxHeartbeats 4000000 in
theorem pChi_any (s : GN) (A : Option Addr) (c : Nat) (i : GId) (a : GC) (w : World) (h1 : PRow w w.heap.size A s.path) (hl : s.path.length ≤ 17179869184) (hc : s.path.length ≤ c) :
    Calls Try.prog 7 #[s.val A c, i.val, a.val] w (ChEnd (chE s i a) (chN s i a) w) := by
  have HV := Lib.hid fun W (hW : Below w.heap.size w W) => pVN_any s A c W (h1.next hW) hl hc
  have HVI := Lib.hid fun W => pVId_any i W
  have HVC := Lib.hid fun W => pVC_any a W
  have HEQ := Lib.hid fun W => id_eql i s.id W
  have HH := Lib.hid fun W (hW : Below w.heap.size w W) => pBel_any s A c i W (h1.next hW) hl hc
  have HCP := Lib.hid fun W (hW : Below w.heap.size w W) => h1.next hW
  have HX : Hid (∀ q, chE s i a = q → q ≠ 0 → ∀ W, Below w.heap.size w W → ChEnd (chE s i a) (chN s i a) w (.returned (.tuple #[.agg #[.int .i64 0, .int .i64 0, .int .i64 0, .slice none 0 0, .int .i64 0, .int .i64 0, .int .i64 0, .int .i64 0, .int .i64 0, .int .i64 0, .bool false], .int .i64 q])) W) := Lib.hid fun q hq h0 W hb => by subst hq; exact ch_bad h0 w W hb
  have HCH : Hid (CH1 s i a ↔ vN s = true ∧ vI i = true ∧ vC a = true ∧ eqI i s.id = false ∧ hasI s.path i = false) := Lib.hid (by
    unfold CH1
    rw [← Bool.not_eq_true (eqI i s.id), eqI_iff])
  have H1 := Lib.hid (ch_1 (s := s) (i := i) (c := a))
  have H9 := Lib.hid (ch_9 (s := s) (i := i) (c := a))
  have H0 := Lib.hid (ch_0 (s := s) (i := i) (c := a))
  have HSH := Lib.hid (CH1.short (s := s) (i := i) (c := a))
  have HFIN : Hid (∀ A' c' (W : World), chE s i a = 0 → chN s i a = ⟨i, s.path ++ [s.id], a⟩ → s.path.length + 1 ≤ c' → OwnG GId.cells 24 3 W w.heap.size (.slice A' (s.path.length + 1) c') (s.path ++ [s.id]) → Below w.heap.size w W → ChEnd (chE s i a) (chN s i a) w (.returned (.tuple #[.agg #[.int .i64 i.core, .int .i64 i.op, .int .i64 i.part, .slice A' (s.path.length + 1) c', .int .i64 a.kind, .int .i64 a.base, .int .i64 a.bits, .int .i64 a.rights, .int .i64 a.width, .int .i64 a.level, .bool a.device], .int .i64 0])) W) := Lib.hid fun A' c' W e1 e2 hcc hr hb => by
    rw [e1, e2]
    exact ⟨A', c', by unfold GN.val; simp, by simpa using hcc, by simpa using hr, hb⟩
  generalize ChEnd (chE s i a) (chN s i a) w = EE at *
  generalize CH1 s i a = ch at *
  generalize chE s i a = q at *
  generalize chN s i a = xn at *
  generalize vN s = vs at *
  generalize vI i = vi at *
  generalize vC a = vc at *
  generalize eqI i s.id = eqq at *
  generalize hasI s.path i = hs at *
  have HSN := Lib.hid (NB.new w s.id A s.path.length c s.cap)
  unfold GN.val at *
  generalize hid : s.id = si at *
  generalize hcp : s.cap = sc at *
  generalize s.path = xs at *
  clear h1 hid hcp
  obtain ⟨s0, s1, s2⟩ := si
  obtain ⟨p0, p1, p2, p3, p4, p5, p6⟩ := sc
  obtain ⟨i0, i1, i2⟩ := i
  obtain ⟨a0, a1, a2, a3, a4, a5, a6⟩ := a
  generalize hn : xs.length = n at *
  simp only [GId.val, GC.val] at *
  have hw1 := belt (Below.refl _ w) (.cells #[.int .i64 s0, .int .i64 s1, .int .i64 s2, .slice A n c, .int .i64 p0, .int .i64 p1, .int .i64 p2, .int .i64 p3, .int .i64 p4, .int .i64 p5, .bool p6] 30)
  have HB0 : Hid (Below w.heap.size w ((((w.alloc (.cells #[.int .i64 s0, .int .i64 s1, .int .i64 s2, .slice A n c, .int .i64 p0, .int .i64 p1, .int .i64 p2, .int .i64 p3, .int .i64 p4, .int .i64 p5, .bool p6] 30)).alloc (.cells #[.int .i64 i0, .int .i64 i1, .int .i64 i2] 24)).alloc (.cells #[.int .i64 a0, .int .i64 a1, .int .i64 a2, .int .i64 a3, .int .i64 a4, .int .i64 a5, .bool a6] 28)).alloc (.cells #[.int .i64 0, .int .i64 0, .int .i64 0, .slice none 0 0, .int .i64 0, .int .i64 0, .int .i64 0, .int .i64 0, .int .i64 0, .int .i64 0, .bool false] 30))) := Lib.hid (belt (belt (belt hw1 _) _) _)
  have HS0 : Hid (NB ((((w.alloc (.cells #[.int .i64 s0, .int .i64 s1, .int .i64 s2, .slice A n c, .int .i64 p0, .int .i64 p1, .int .i64 p2, .int .i64 p3, .int .i64 p4, .int .i64 p5, .bool p6] 30)).alloc (.cells #[.int .i64 i0, .int .i64 i1, .int .i64 i2] 24)).alloc (.cells #[.int .i64 a0, .int .i64 a1, .int .i64 a2, .int .i64 a3, .int .i64 a4, .int .i64 a5, .bool a6] 28)).alloc (.cells #[.int .i64 0, .int .i64 0, .int .i64 0, .slice none 0 0, .int .i64 0, .int .i64 0, .int .i64 0, .int .i64 0, .int .i64 0, .int .i64 0, .bool false] 30)) w.heap.size ⟨s0, s1, s2⟩ A n c ⟨p0, p1, p2, p3, p4, p5, p6⟩) := Lib.hid (HSN.out.next (belt (belt (belt (Below.refl _ _) _) _) _))
  have HI0 : Hid (IB ((((w.alloc (.cells #[.int .i64 s0, .int .i64 s1, .int .i64 s2, .slice A n c, .int .i64 p0, .int .i64 p1, .int .i64 p2, .int .i64 p3, .int .i64 p4, .int .i64 p5, .bool p6] 30)).alloc (.cells #[.int .i64 i0, .int .i64 i1, .int .i64 i2] 24)).alloc (.cells #[.int .i64 a0, .int .i64 a1, .int .i64 a2, .int .i64 a3, .int .i64 a4, .int .i64 a5, .bool a6] 28)).alloc (.cells #[.int .i64 0, .int .i64 0, .int .i64 0, .slice none 0 0, .int .i64 0, .int .i64 0, .int .i64 0, .int .i64 0, .int .i64 0, .int .i64 0, .bool false] 30)) (w.heap.size + 1) ⟨i0, i1, i2⟩) := Lib.hid (by
    have h := (IB.new (w.alloc (.cells #[.int .i64 s0, .int .i64 s1, .int .i64 s2, .slice A n c, .int .i64 p0, .int .i64 p1, .int .i64 p2, .int .i64 p3, .int .i64 p4, .int .i64 p5, .bool p6] 30)) ⟨i0, i1, i2⟩).next (belt (belt (Below.refl _ _) (.cells #[.int .i64 a0, .int .i64 a1, .int .i64 a2, .int .i64 a3, .int .i64 a4, .int .i64 a5, .bool a6] 28)) (.cells #[.int .i64 0, .int .i64 0, .int .i64 0, .slice none 0 0, .int .i64 0, .int .i64 0, .int .i64 0, .int .i64 0, .int .i64 0, .int .i64 0, .bool false] 30))
    simpa using h)
  have HC0 : Hid (CB ((((w.alloc (.cells #[.int .i64 s0, .int .i64 s1, .int .i64 s2, .slice A n c, .int .i64 p0, .int .i64 p1, .int .i64 p2, .int .i64 p3, .int .i64 p4, .int .i64 p5, .bool p6] 30)).alloc (.cells #[.int .i64 i0, .int .i64 i1, .int .i64 i2] 24)).alloc (.cells #[.int .i64 a0, .int .i64 a1, .int .i64 a2, .int .i64 a3, .int .i64 a4, .int .i64 a5, .bool a6] 28)).alloc (.cells #[.int .i64 0, .int .i64 0, .int .i64 0, .slice none 0 0, .int .i64 0, .int .i64 0, .int .i64 0, .int .i64 0, .int .i64 0, .int .i64 0, .bool false] 30)) (w.heap.size + 1 + 1) ⟨a0, a1, a2, a3, a4, a5, a6⟩) := Lib.hid (by
    have h := (CB.new ((w.alloc (.cells #[.int .i64 s0, .int .i64 s1, .int .i64 s2, .slice A n c, .int .i64 p0, .int .i64 p1, .int .i64 p2, .int .i64 p3, .int .i64 p4, .int .i64 p5, .bool p6] 30)).alloc (.cells #[.int .i64 i0, .int .i64 i1, .int .i64 i2] 24)) ⟨a0, a1, a2, a3, a4, a5, a6⟩).next (belt (Below.refl _ _) (.cells #[.int .i64 0, .int .i64 0, .int .i64 0, .slice none 0 0, .int .i64 0, .int .i64 0, .int .i64 0, .int .i64 0, .int .i64 0, .int .i64 0, .bool false] 30))
    simpa using h)
  have HZ0 : Hid (NB ((((w.alloc (.cells #[.int .i64 s0, .int .i64 s1, .int .i64 s2, .slice A n c, .int .i64 p0, .int .i64 p1, .int .i64 p2, .int .i64 p3, .int .i64 p4, .int .i64 p5, .bool p6] 30)).alloc (.cells #[.int .i64 i0, .int .i64 i1, .int .i64 i2] 24)).alloc (.cells #[.int .i64 a0, .int .i64 a1, .int .i64 a2, .int .i64 a3, .int .i64 a4, .int .i64 a5, .bool a6] 28)).alloc (.cells #[.int .i64 0, .int .i64 0, .int .i64 0, .slice none 0 0, .int .i64 0, .int .i64 0, .int .i64 0, .int .i64 0, .int .i64 0, .int .i64 0, .bool false] 30)) (w.heap.size + 1 + 1 + 1) ⟨0, 0, 0⟩ none 0 0 ⟨0, 0, 0, 0, 0, 0, false⟩) := Lib.hid (by
    have h := NB.new (((w.alloc (.cells #[.int .i64 s0, .int .i64 s1, .int .i64 s2, .slice A n c, .int .i64 p0, .int .i64 p1, .int .i64 p2, .int .i64 p3, .int .i64 p4, .int .i64 p5, .bool p6] 30)).alloc (.cells #[.int .i64 i0, .int .i64 i1, .int .i64 i2] 24)).alloc (.cells #[.int .i64 a0, .int .i64 a1, .int .i64 a2, .int .i64 a3, .int .i64 a4, .int .i64 a5, .bool a6] 28)) ⟨0, 0, 0⟩ none 0 0 ⟨0, 0, 0, 0, 0, 0, false⟩
    simpa using h)
  have HSC : Hid (∀ (W : World) (p : Value) (k : Nat), w.heap.size ≤ k → Below w.heap.size w W → ∀ j, Below w.heap.size w (W.setCell ⟨k, j, none⟩ p)) := Lib.hid fun W p k hk hb j => hb.setCell (p := ⟨k, j, none⟩) hk p
  clear hw1 HSN
  go_enter Try.func7, Try.ntmps7
  go_wp2_with fail
  go_fit (HV.out _ HB0.out)
  rintro e w1 ⟨rfl, hb1⟩
  have HS1 := Lib.hid (HS0.out.next hb1)
  have HI1 := Lib.hid (HI0.out.next hb1)
  have HC1 := Lib.hid (HC0.out.next hb1)
  have HZ1 := Lib.hid (HZ0.out.next hb1)
  have HB1 := Lib.hid (beln HB0.out hb1)
  clear hb1 HS0 HI0 HC0 HZ0 HB0
  obtain ⟨c0, c1, c2, c3, c4, c5, c6, c7, c8, c9, c10⟩ := HS1.out.cells
  obtain ⟨j0, j1, j2⟩ := HI1.out.cells
  obtain ⟨k0, k1, k2, k3, k4, k5, k6⟩ := HC1.out.cells
  simp only at c0 c1 c2 c3 c4 c5 c6 c7 c8 c9 c10 j0 j1 j2 k0 k1 k2 k3 k4 k5 k6
  rcases vs with _ | _
  · have hq := H1.out fun h => by have := (HCH.out.1 h).1; cases this
    have HE := Lib.hid (HX.out 1 hq (by decide))
    clear HX
    obtain ⟨z0, z1, z2, z3, z4, z5, z6, z7, z8, z9, z10⟩ := HZ1.out.cells
    have zf := HZ1.out.frz
    have zl := HZ1.out.lt
    simp only at z0 z1 z2 z3 z4 z5 z6 z7 z8 z9 z10
    go_wp2
    refine bodyPost_ret (v := .tuple #[.agg #[.int .i64 0, .int .i64 0, .int .i64 0, .slice none 0 0, .int .i64 0, .int .i64 0, .int .i64 0, .int .i64 0, .int .i64 0, .int .i64 0, .bool false], .int .i64 1]) (by simp [results, Try.results7, go_sem, z0, z1, z2, z3, z4, z5, z6, z7, z8, z9, z10]) rfl ?_
    refine HE.out _ ?_
    repeat (refine HSC.out _ _ _ (by omega) ?_ _)
    exact HB1.out
  go_wp2_with fail
  go_fit (HVI.out _)
  rintro e w2 ⟨rfl, hb2⟩
  clear c0 c1 c2 c3 c4 c5 c6 c7 c8 c9 c10 j0 j1 j2 k0 k1 k2 k3 k4 k5 k6
  have HS2 := Lib.hid (HS1.out.next hb2)
  have HI2 := Lib.hid (HI1.out.next hb2)
  have HC2 := Lib.hid (HC1.out.next hb2)
  have HZ2 := Lib.hid (HZ1.out.next hb2)
  have HB2 := Lib.hid (beln HB1.out hb2)
  clear hb2 HS1 HI1 HC1 HZ1 HB1
  obtain ⟨c0, c1, c2, c3, c4, c5, c6, c7, c8, c9, c10⟩ := HS2.out.cells
  obtain ⟨j0, j1, j2⟩ := HI2.out.cells
  obtain ⟨k0, k1, k2, k3, k4, k5, k6⟩ := HC2.out.cells
  simp only at c0 c1 c2 c3 c4 c5 c6 c7 c8 c9 c10 j0 j1 j2 k0 k1 k2 k3 k4 k5 k6
  rcases vi with _ | _
  · have hq := H1.out fun h => by have := (HCH.out.1 h).2.1; cases this
    have HE := Lib.hid (HX.out 1 hq (by decide))
    clear HX
    obtain ⟨z0, z1, z2, z3, z4, z5, z6, z7, z8, z9, z10⟩ := HZ2.out.cells
    have zf := HZ2.out.frz
    have zl := HZ2.out.lt
    simp only at z0 z1 z2 z3 z4 z5 z6 z7 z8 z9 z10
    go_wp2
    refine bodyPost_ret (v := .tuple #[.agg #[.int .i64 0, .int .i64 0, .int .i64 0, .slice none 0 0, .int .i64 0, .int .i64 0, .int .i64 0, .int .i64 0, .int .i64 0, .int .i64 0, .bool false], .int .i64 1]) (by simp [results, Try.results7, go_sem, z0, z1, z2, z3, z4, z5, z6, z7, z8, z9, z10]) rfl ?_
    refine HE.out _ ?_
    repeat (refine HSC.out _ _ _ (by omega) ?_ _)
    exact HB2.out
  go_wp2_with fail
  go_fit (HVC.out _)
  rintro e w3 ⟨rfl, hb3⟩
  clear c0 c1 c2 c3 c4 c5 c6 c7 c8 c9 c10 j0 j1 j2 k0 k1 k2 k3 k4 k5 k6
  have HS3 := Lib.hid (HS2.out.next hb3)
  have HI3 := Lib.hid (HI2.out.next hb3)
  have HC3 := Lib.hid (HC2.out.next hb3)
  have HZ3 := Lib.hid (HZ2.out.next hb3)
  have HB3 := Lib.hid (beln HB2.out hb3)
  clear hb3 HS2 HI2 HC2 HZ2 HB2
  obtain ⟨c0, c1, c2, c3, c4, c5, c6, c7, c8, c9, c10⟩ := HS3.out.cells
  obtain ⟨j0, j1, j2⟩ := HI3.out.cells
  obtain ⟨k0, k1, k2, k3, k4, k5, k6⟩ := HC3.out.cells
  simp only at c0 c1 c2 c3 c4 c5 c6 c7 c8 c9 c10 j0 j1 j2 k0 k1 k2 k3 k4 k5 k6
  have heq := fun W => HEQ.out W
  rcases vc with _ | _
  · have hq := H1.out fun h => by have := (HCH.out.1 h).2.2.1; cases this
    have HE := Lib.hid (HX.out 1 hq (by decide))
    clear HX
    obtain ⟨z0, z1, z2, z3, z4, z5, z6, z7, z8, z9, z10⟩ := HZ3.out.cells
    have zf := HZ3.out.frz
    have zl := HZ3.out.lt
    simp only at z0 z1 z2 z3 z4 z5 z6 z7 z8 z9 z10
    go_wp2
    refine bodyPost_ret (v := .tuple #[.agg #[.int .i64 0, .int .i64 0, .int .i64 0, .slice none 0 0, .int .i64 0, .int .i64 0, .int .i64 0, .int .i64 0, .int .i64 0, .int .i64 0, .bool false], .int .i64 1]) (by simp [results, Try.results7, go_sem, z0, z1, z2, z3, z4, z5, z6, z7, z8, z9, z10]) rfl ?_
    refine HE.out _ ?_
    repeat (refine HSC.out _ _ _ (by omega) ?_ _)
    exact HB3.out
  rcases eqq with _ | _
  rotate_left
  · have hq := H1.out fun h => by have := (HCH.out.1 h).2.2.2.1; cases this
    have HE := Lib.hid (HX.out 1 hq (by decide))
    clear HX
    obtain ⟨z0, z1, z2, z3, z4, z5, z6, z7, z8, z9, z10⟩ := HZ3.out.cells
    have zf := HZ3.out.frz
    have zl := HZ3.out.lt
    simp only at z0 z1 z2 z3 z4 z5 z6 z7 z8 z9 z10
    go_wp2
    refine bodyPost_ret (v := .tuple #[.agg #[.int .i64 0, .int .i64 0, .int .i64 0, .slice none 0 0, .int .i64 0, .int .i64 0, .int .i64 0, .int .i64 0, .int .i64 0, .int .i64 0, .bool false], .int .i64 1]) (by simp [results, Try.results7, go_sem, z0, z1, z2, z3, z4, z5, z6, z7, z8, z9, z10]) rfl ?_
    refine HE.out _ ?_
    repeat (refine HSC.out _ _ _ (by omega) ?_ _)
    exact HB3.out
  go_wp2_with fail
  go_fit (HH.out _ HB3.out)
  rintro e w4 ⟨rfl, hb4⟩
  clear c0 c1 c2 c3 c4 c5 c6 c7 c8 c9 c10 j0 j1 j2 k0 k1 k2 k3 k4 k5 k6
  have HS4 := Lib.hid (HS3.out.next hb4)
  have HI4 := Lib.hid (HI3.out.next hb4)
  have HC4 := Lib.hid (HC3.out.next hb4)
  have HZ4 := Lib.hid (HZ3.out.next hb4)
  have HB4 := Lib.hid (beln HB3.out hb4)
  clear hb4 HS3 HI3 HC3 HZ3 HB3
  obtain ⟨c0, c1, c2, c3, c4, c5, c6, c7, c8, c9, c10⟩ := HS4.out.cells
  obtain ⟨j0, j1, j2⟩ := HI4.out.cells
  obtain ⟨k0, k1, k2, k3, k4, k5, k6⟩ := HC4.out.cells
  simp only at c0 c1 c2 c3 c4 c5 c6 c7 c8 c9 c10 j0 j1 j2 k0 k1 k2 k3 k4 k5 k6
  clear heq
  rcases hs with _ | _
  rotate_left
  · have hq := H1.out fun h => by have := (HCH.out.1 h).2.2.2.2; cases this
    have HE := Lib.hid (HX.out 1 hq (by decide))
    clear HX
    obtain ⟨z0, z1, z2, z3, z4, z5, z6, z7, z8, z9, z10⟩ := HZ4.out.cells
    have zf := HZ4.out.frz
    have zl := HZ4.out.lt
    simp only at z0 z1 z2 z3 z4 z5 z6 z7 z8 z9 z10
    go_wp2
    refine bodyPost_ret (v := .tuple #[.agg #[.int .i64 0, .int .i64 0, .int .i64 0, .slice none 0 0, .int .i64 0, .int .i64 0, .int .i64 0, .int .i64 0, .int .i64 0, .int .i64 0, .bool false], .int .i64 1]) (by simp [results, Try.results7, go_sem, z0, z1, z2, z3, z4, z5, z6, z7, z8, z9, z10]) rfl ?_
    refine HE.out _ ?_
    repeat (refine HSC.out _ _ _ (by omega) ?_ _)
    exact HB4.out
  have hch := HCH.out.2 (by simp)
  have hn8 := HSH.out hch
  by_cases h8 : n = 8
  · have hq := H9.out hch h8
    have f8 : ((n : Int) == 8) = true := by simp; omega
    clear h8
    have HE := Lib.hid (HX.out 9 hq (by decide))
    clear HX
    obtain ⟨z0, z1, z2, z3, z4, z5, z6, z7, z8, z9, z10⟩ := HZ4.out.cells
    have zf := HZ4.out.frz
    have zl := HZ4.out.lt
    simp only at z0 z1 z2 z3 z4 z5 z6 z7 z8 z9 z10
    go_wp2
    refine bodyPost_ret (v := .tuple #[.agg #[.int .i64 0, .int .i64 0, .int .i64 0, .slice none 0 0, .int .i64 0, .int .i64 0, .int .i64 0, .int .i64 0, .int .i64 0, .int .i64 0, .bool false], .int .i64 9]) (by simp [results, Try.results7, go_sem, z0, z1, z2, z3, z4, z5, z6, z7, z8, z9, z10]) rfl ?_
    refine HE.out _ ?_
    repeat (refine HSC.out _ _ _ (by omega) ?_ _)
    exact HB4.out
  have f8 : ((n : Int) == 8) = false := by simp; omega
  obtain ⟨hq0, hxn⟩ := H0.out hch h8
  have HF0 := Lib.hid fun A' c' W u v x => HFIN.out A' c' W hq0 hxn u v x
  clear hq0 hxn hch h8 HX HCH H1 H9 H0 HSH HFIN HV HVI HEQ HH
  go_upto_region 5 with fail
  clear c0 c1 c2 c3 c4 c5 c6 c7 c8 c9 c10 j0 j1 j2 k0 k1 k2 k3 k4 k5 k6 HVC
  have hS : Below w.heap.size w w4.drew ∧ NB w4.drew w.heap.size ⟨s0, s1, s2⟩ A n c ⟨p0, p1, p2, p3, p4, p5, p6⟩ ∧ IB w4.drew (w.heap.size + 1) ⟨i0, i1, i2⟩ ∧ CB w4.drew (w.heap.size + 1 + 1) ⟨a0, a1, a2, a3, a4, a5, a6⟩ := ⟨HB4.out.drew, HS4.out.next (Below.refl _ w4).drew, HI4.out.next (Below.refl _ w4).drew, HC4.out.next (Below.refl _ w4).drew⟩
  refine wp_region_growS (S := fun W => Below w.heap.size w W ∧ NB W w.heap.size ⟨s0, s1, s2⟩ A n c ⟨p0, p1, p2, p3, p4, p5, p6⟩ ∧ IB W (w.heap.size + 1) ⟨i0, i1, i2⟩ ∧ CB W (w.heap.size + 1 + 1) ⟨a0, a1, a2, a3, a4, a5, a6⟩) [(0, true), (1, true), (2, true), (3, true), (4, true), (8, true), (5, false), (6, false), (7, false), (9, true), (10, false), (11, true)] (by kernel_rfl) (by kernel_rfl) (by kernel_rfl) (by kernel_rfl) (by intro c a d v w h; cases d <;> exact h) hS ?_
  iterate 6
    (first
      | (refine wpGrowS_float (v := ?_) (by simp only [List.getElem?_toArray, List.getElem?_cons_succ, List.getElem?_cons_zero]; rfl) (by rfl) ?_ ?_
         rotate_left
         · (intro W hW; obtain ⟨c0, c1, c2, c3, c4, c5, c6, c7, c8, c9, c10⟩ := NB.cells (hW.2.1); obtain ⟨j0, j1, j2⟩ := IB.cells (hW.2.2.1); obtain ⟨k0, k1, k2, k3, k4, k5, k6⟩ := CB.cells (hW.2.2.2); (try simp only at *); go_simp; try with_reducible rfl)
         simp only [Act.put, List.setIfInBounds_toArray, List.set_cons_zero, List.set_cons_succ])
      | (refine wpGrowS_skip (by simp only [List.getElem?_toArray, List.getElem?_cons_succ, List.getElem?_cons_zero]; rfl) (by rfl) ?_
         simp only [Act.put, List.setIfInBounds_toArray, List.set_cons_zero, List.set_cons_succ]))
  have hb5 : Below w4.drew.heap.size w4.drew (w4.alloc (.cells #[.int .i64 s0, .int .i64 s1, .int .i64 s2] 24)).drew := belt (Below.refl _ w4.drew) _
  have hb6 : Below w4.drew.heap.size w4.drew ((w4.alloc (.cells #[.int .i64 s0, .int .i64 s1, .int .i64 s2] 24)).alloc (.cells #[.slice A n c, .slice (some ⟨w4.heap.size, 0, none⟩) 1 1] 26)).drew := belt (belt (Below.refl _ w4.drew) (.cells #[.int .i64 s0, .int .i64 s1, .int .i64 s2] 24)) _
  have hS5 : Below w.heap.size w (w4.alloc (.cells #[.int .i64 s0, .int .i64 s1, .int .i64 s2] 24)).drew ∧ NB (w4.alloc (.cells #[.int .i64 s0, .int .i64 s1, .int .i64 s2] 24)).drew w.heap.size ⟨s0, s1, s2⟩ A n c ⟨p0, p1, p2, p3, p4, p5, p6⟩ ∧ IB (w4.alloc (.cells #[.int .i64 s0, .int .i64 s1, .int .i64 s2] 24)).drew (w.heap.size + 1) ⟨i0, i1, i2⟩ ∧ CB (w4.alloc (.cells #[.int .i64 s0, .int .i64 s1, .int .i64 s2] 24)).drew (w.heap.size + 1 + 1) ⟨a0, a1, a2, a3, a4, a5, a6⟩ := ⟨beln hS.1 hb5, hS.2.1.next hb5, hS.2.2.1.next hb5, hS.2.2.2.next hb5⟩
  have hS6 : Below w.heap.size w ((w4.alloc (.cells #[.int .i64 s0, .int .i64 s1, .int .i64 s2] 24)).alloc (.cells #[.slice A n c, .slice (some ⟨w4.heap.size, 0, none⟩) 1 1] 26)).drew ∧ NB ((w4.alloc (.cells #[.int .i64 s0, .int .i64 s1, .int .i64 s2] 24)).alloc (.cells #[.slice A n c, .slice (some ⟨w4.heap.size, 0, none⟩) 1 1] 26)).drew w.heap.size ⟨s0, s1, s2⟩ A n c ⟨p0, p1, p2, p3, p4, p5, p6⟩ ∧ IB ((w4.alloc (.cells #[.int .i64 s0, .int .i64 s1, .int .i64 s2] 24)).alloc (.cells #[.slice A n c, .slice (some ⟨w4.heap.size, 0, none⟩) 1 1] 26)).drew (w.heap.size + 1) ⟨i0, i1, i2⟩ ∧ CB ((w4.alloc (.cells #[.int .i64 s0, .int .i64 s1, .int .i64 s2] 24)).alloc (.cells #[.slice A n c, .slice (some ⟨w4.heap.size, 0, none⟩) 1 1] 26)).drew (w.heap.size + 1 + 1) ⟨a0, a1, a2, a3, a4, a5, a6⟩ := ⟨beln hS.1 hb6, hS.2.1.next hb6, hS.2.2.1.next hb6, hS.2.2.2.next hb6⟩
  have hg6 := Lib.cell_of_heap (heap_alloc_new (w4.alloc (.cells #[.int .i64 s0, .int .i64 s1, .int .i64 s2] 24)) (.cells #[.slice A n c, .slice (some ⟨w4.heap.size, 0, none⟩) 1 1] 26))
  rw [World.size_alloc] at hg6
  have hcat := catI_any xs [⟨s0, s1, s2⟩] A (some ⟨w4.heap.size, 0, none⟩) c 1 (w4.heap.size + 1) 2 ((w4.alloc (.cells #[.int .i64 s0, .int .i64 s1, .int .i64 s2] 24)).alloc (.cells #[.slice A n c, .slice (some ⟨w4.heap.size, 0, none⟩) 1 1] 26)).drew (by rw [World.cell?_drew, hg6, hn]; rfl) (by rw [World.cell?_drew, hg6]; rfl) (by simp) (HCP.out _ hS6.1)
    (fun hh => by
      obtain ⟨b, off, e, hB, hc⟩ := lit_id w4 ⟨s0, s1, s2⟩ hh
      exact ⟨b, off, e, by simp; omega, fun j hj i v hi => ((show Below (w4.heap.size + 1) (w4.alloc (.cells #[.int .i64 s0, .int .i64 s1, .int .i64 s2] 24)) ((w4.alloc (.cells #[.int .i64 s0, .int .i64 s1, .int .i64 s2] 24)).alloc (.cells #[.slice A n c, .slice (some ⟨w4.heap.size, 0, none⟩) 1 1] 26)).drew from by
        have h := (belt (Below.refl _ (w4.alloc (.cells #[.int .i64 s0, .int .i64 s1, .int .i64 s2] 24))) (.cells #[.slice A n c, .slice (some ⟨w4.heap.size, 0, none⟩) 1 1] 26)).drew
        rwa [World.size_alloc] at h).cell (p := ⟨b, off + (j * 3 + i), none⟩) hB).trans (hc j hj i v hi)⟩) (by rw [List.length_singleton]; omega) (by rw [hn, List.length_singleton]; omega)
  clear hg6
  refine wpGrowS_call (by simp only [List.getElem?_toArray, List.getElem?_cons_succ, List.getElem?_cons_zero]; rfl) (by rfl) fun K hK => ?_
  go_simp
  refine hK _ _ hS5 ?_
  clear hK K
  try simp only [Act.put, List.setIfInBounds_toArray, List.set_cons_zero, List.set_cons_succ]
  refine wpGrowS_call (by simp only [List.getElem?_toArray, List.getElem?_cons_succ, List.getElem?_cons_zero]; rfl) (by rfl) fun K hK => ?_
  go_simp
  refine hK _ _ hS6 ?_
  clear hK K
  try simp only [Act.put, List.setIfInBounds_toArray, List.set_cons_zero, List.set_cons_succ]
  refine wpGrowS_call (by simp only [List.getElem?_toArray, List.getElem?_cons_succ, List.getElem?_cons_zero]; rfl) (by rfl) fun K hK => ?_
  go_simp
  go_fit hcat
  rintro e w9 ⟨v9, rfl, hown9, hb9⟩
  obtain ⟨A9, c9, rfl, hc9, _, _⟩ := hown9.row GId.len
  rw [List.length_append, hn, List.length_singleton] at hown9 hc9 ⊢
  have hS9 : Below w.heap.size w w9 ∧ NB w9 w.heap.size ⟨s0, s1, s2⟩ A n c ⟨p0, p1, p2, p3, p4, p5, p6⟩ ∧ IB w9 (w.heap.size + 1) ⟨i0, i1, i2⟩ ∧ CB w9 (w.heap.size + 1 + 1) ⟨a0, a1, a2, a3, a4, a5, a6⟩ := ⟨beln hS6.1 hb9, hS6.2.1.next hb9, hS6.2.2.1.next hb9, hS6.2.2.2.next hb9⟩
  have HZ9 := ((HZ4.out.next (Below.refl _ w4).drew).next hb6).next hb9
  have hbase : w.heap.size + 1 + 1 + 1 < ((w4.alloc (.cells #[.int .i64 s0, .int .i64 s1, .int .i64 s2] 24)).alloc (.cells #[.slice A n c, .slice (some ⟨w4.heap.size, 0, none⟩) 1 1] 26)).drew.heap.size := by have := HZ4.out.lt; simp; omega
  have hbw : w.heap.size ≤ ((w4.alloc (.cells #[.int .i64 s0, .int .i64 s1, .int .i64 s2] 24)).alloc (.cells #[.slice A n c, .slice (some ⟨w4.heap.size, 0, none⟩) 1 1] 26)).drew.heap.size := by omega
  generalize ((w4.alloc (.cells #[.int .i64 s0, .int .i64 s1, .int .i64 s2] 24)).alloc (.cells #[.slice A n c, .slice (some ⟨w4.heap.size, 0, none⟩) 1 1] 26)).drew.heap.size = NB6 at *
  go_simp
  refine hK _ _ hS9 ?_
  clear hK K
  try simp only [Act.put, List.setIfInBounds_toArray, List.set_cons_zero, List.set_cons_succ]
  iterate 1
    (first
      | (refine wpGrowS_float (v := ?_) (by simp only [List.getElem?_toArray, List.getElem?_cons_succ, List.getElem?_cons_zero]; rfl) (by rfl) ?_ ?_
         rotate_left
         · (intro W hW; obtain ⟨c0, c1, c2, c3, c4, c5, c6, c7, c8, c9, c10⟩ := NB.cells (hW.2.1); obtain ⟨j0, j1, j2⟩ := IB.cells (hW.2.2.1); obtain ⟨k0, k1, k2, k3, k4, k5, k6⟩ := CB.cells (hW.2.2.2); (try simp only at *); go_simp; try with_reducible rfl)
         simp only [Act.put, List.setIfInBounds_toArray, List.set_cons_zero, List.set_cons_succ])
      | (refine wpGrowS_skip (by simp only [List.getElem?_toArray, List.getElem?_cons_succ, List.getElem?_cons_zero]; rfl) (by rfl) ?_
         simp only [Act.put, List.setIfInBounds_toArray, List.set_cons_zero, List.set_cons_succ]))
  obtain ⟨z0, z1, z2, z3, z4, z5, z6, z7, z8, z9, z10⟩ := HZ9.cells
  have zf := HZ9.frz
  have zl := HZ9.lt
  simp only at z0 z1 z2 z3 z4 z5 z6 z7 z8 z9 z10
  have HSS : ∀ (W : World) j u, (Below w.heap.size w W ∧ NB W w.heap.size ⟨s0, s1, s2⟩ A n c ⟨p0, p1, p2, p3, p4, p5, p6⟩ ∧ IB W (w.heap.size + 1) ⟨i0, i1, i2⟩ ∧ CB W (w.heap.size + 1 + 1) ⟨a0, a1, a2, a3, a4, a5, a6⟩) → (Below w.heap.size w (W.setCell ⟨w.heap.size + 1 + 1 + 1, j, none⟩ u) ∧ NB (W.setCell ⟨w.heap.size + 1 + 1 + 1, j, none⟩ u) w.heap.size ⟨s0, s1, s2⟩ A n c ⟨p0, p1, p2, p3, p4, p5, p6⟩ ∧ IB (W.setCell ⟨w.heap.size + 1 + 1 + 1, j, none⟩ u) (w.heap.size + 1) ⟨i0, i1, i2⟩ ∧ CB (W.setCell ⟨w.heap.size + 1 + 1 + 1, j, none⟩ u) (w.heap.size + 1 + 1) ⟨a0, a1, a2, a3, a4, a5, a6⟩) := fun W j u h => ⟨h.1.setCell (p := ⟨w.heap.size + 1 + 1 + 1, j, none⟩) (by simp; omega) u, (Below.heap_setCell W ⟨w.heap.size + 1 + 1 + 1, j, none⟩ u w.heap.size (by simp; omega)).trans h.2.1, (Below.heap_setCell W ⟨w.heap.size + 1 + 1 + 1, j, none⟩ u (w.heap.size + 1) (by simp)).trans h.2.2.1, (Below.heap_setCell W ⟨w.heap.size + 1 + 1 + 1, j, none⟩ u (w.heap.size + 1 + 1) (by simp)).trans h.2.2.2⟩
  have HSO : ∀ (W : World) j u, OwnG GId.cells 24 3 W NB6 (.slice A9 (n + 1) c9) (xs ++ [⟨s0, s1, s2⟩]) → OwnG GId.cells 24 3 (W.setCell ⟨w.heap.size + 1 + 1 + 1, j, none⟩ u) NB6 (.slice A9 (n + 1) c9) (xs ++ [⟨s0, s1, s2⟩]) := fun W j u h => h.setOther hbase j u
  refine wpGrowS_call (by simp only [List.getElem?_toArray, List.getElem?_cons_succ, List.getElem?_cons_zero]; rfl) (by rfl) fun K hK => ?_
  go_simp
  refine hK _ _ ?_ ?_
  · repeat (refine HSS _ _ _ ?_)
    exact hS9
  clear hK K
  try simp only [Act.put, List.setIfInBounds_toArray, List.set_cons_zero, List.set_cons_succ]
  iterate 1
    (first
      | (refine wpGrowS_float (v := ?_) (by simp only [List.getElem?_toArray, List.getElem?_cons_succ, List.getElem?_cons_zero]; rfl) (by rfl) ?_ ?_
         rotate_left
         · (intro W hW; obtain ⟨c0, c1, c2, c3, c4, c5, c6, c7, c8, c9, c10⟩ := NB.cells (hW.2.1); obtain ⟨j0, j1, j2⟩ := IB.cells (hW.2.2.1); obtain ⟨k0, k1, k2, k3, k4, k5, k6⟩ := CB.cells (hW.2.2.2); (try simp only at *); go_simp; try with_reducible rfl)
         simp only [Act.put, List.setIfInBounds_toArray, List.set_cons_zero, List.set_cons_succ])
      | (refine wpGrowS_skip (by simp only [List.getElem?_toArray, List.getElem?_cons_succ, List.getElem?_cons_zero]; rfl) (by rfl) ?_
         simp only [Act.put, List.setIfInBounds_toArray, List.set_cons_zero, List.set_cons_succ]))
  refine wpGrowS_nil ?_
  have HB9 := Lib.hid hS9.1
  clear hS9 HSS hS5 hS6 hS hb5 hb6 hcat
  go_wp2
  refine bodyPost_ret (v := .tuple #[.agg #[.int .i64 i0, .int .i64 i1, .int .i64 i2, .slice A9 (n + 1) c9, .int .i64 a0, .int .i64 a1, .int .i64 a2, .int .i64 a3, .int .i64 a4, .int .i64 a5, .bool a6], .int .i64 0]) (by simp [results, Try.results7, go_sem, z0, z1, z2, z3, z4, z5, z6, z7, z8, z9, z10]) rfl ?_
  refine HF0.out _ _ _ hc9 ?_ ?_
  · refine OwnG.low (b := NB6) ?_ (by omega)
    · repeat (refine HSO _ _ _ ?_)
      exact hown9
  · repeat (refine HSC.out _ _ _ (by omega) ?_ _)
    exact HB9.out
end Go.Proofs.Ytndppbfdcceflaa
