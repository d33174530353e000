/-
  The law NodeChildExact returns true.
  Conditions: none.
-/
import Derived.Test.YtnoegjfokceghaaNap
namespace Go.Proofs.Ytnoegjfokceghaa

open Go.RowKit

theorem NB.store {W : World} {N : Nat} {i : GId} {A : Option Addr} {n c : Nat} {p : GC} (h : NB W N i A n c p) (i' : GId) (A' : Option Addr) (n' c' : Nat) (p' : GC) : NB (((((((((((W.setCell ⟨N, 0, none⟩ (.int .i64 i'.core)).setCell ⟨N, 1, none⟩ (.int .i64 i'.op)).setCell ⟨N, 2, none⟩ (.int .i64 i'.part)).setCell ⟨N, 3, none⟩ (.slice A' n' c')).setCell ⟨N, 4, none⟩ (.int .i64 p'.kind)).setCell ⟨N, 5, none⟩ (.int .i64 p'.base)).setCell ⟨N, 6, none⟩ (.int .i64 p'.bits)).setCell ⟨N, 7, none⟩ (.int .i64 p'.rights)).setCell ⟨N, 8, none⟩ (.int .i64 p'.width)).setCell ⟨N, 9, none⟩ (.int .i64 p'.level)).setCell ⟨N, 10, none⟩ (.bool p'.device)) N i' A' n' c' p' := by
  unfold NB at *
  simp [World.setCell, Array.getElem?_modify, h]
set_option maxRecDepth 20000 in
set_option maxHeartbeats 4000000 in
theorem lchi12 (s : GN) (A : Option Addr) (c : Nat) (i : GId) (a : GC) (w : World) (h1 : PRow w w.heap.size A s.path) (hc : s.path.length ≤ c) :
    Calls Try.prog 4 #[s.val A c, i.val, a.val] w fun e w' => e = .returned (.bool true) ∧ Below w.heap.size w w' := by
  have HAW := Lib.hid fun W => awake12 W
  by_cases h40 : 40 < s.path.length
  · have f1 : decide ((40 : Int) < (s.path.length : Int)) = true := by simp; omega
    have HB0 := Lib.hid (belt (belt (belt (Below.refl _ w) (.cells #[.int .i64 s.id.core, .int .i64 s.id.op, .int .i64 s.id.part, .slice A s.path.length c, .int .i64 s.cap.kind, .int .i64 s.cap.base, .int .i64 s.cap.bits, .int .i64 s.cap.rights, .int .i64 s.cap.width, .int .i64 s.cap.level, .bool s.cap.device] 28)) (.cells #[.int .i64 i.core, .int .i64 i.op, .int .i64 i.part] 23)) (.cells #[.int .i64 a.kind, .int .i64 a.base, .int .i64 a.bits, .int .i64 a.rights, .int .i64 a.width, .int .i64 a.level, .bool a.device] 26))
    simp only [GN.val, GId.val, GC.val]
    clear h40 h1 hc
    generalize s.path.length = n at *
    go_enter Try.func4, Try.ntmps4
    go_wp2_with fail
    go_fit (HAW.out _)
    rintro e w1 ⟨rfl, hb1⟩
    have HB1 := Lib.hid (beln HB0.out hb1)
    clear hb1
    go_wp2
    go_ret
    exact ⟨rfl, HB1.out⟩
  have f1 : decide ((40 : Int) < (s.path.length : Int)) = false := by simp; omega
  have hl : s.path.length ≤ 17179869184 := by omega
  have HCP := Lib.hid fun W (hW : Below w.heap.size w W) => rCpn_any s A c W (h1.next hW) hl
  have HCH := Lib.hid fun A' c' W (h : PRow W W.heap.size A' s.path) (hc' : s.path.length ≤ c') => pChi_any s A' c' i a W h hl hc'
  have HRC := Lib.hid fun W (hW : Below w.heap.size w W) => rChi_any s A c i a W (h1.next hW) hl hc
  have HSA := Lib.hid fun A' B' c' d' W (h : PRow W W.heap.size A' (chN s i a).path) (h' : PRow W W.heap.size B' (chN s i a).path) => rSan_any (chN s i a) (chN s i a) A' B' c' d' W h h'
  have HYL : Hid ((chN s i a).path.length ≤ 17179869184) := Lib.hid (by unfold chN; split <;> simp [zN]; omega)
  rw [show decide (chN s i a = chN s i a) = true by simp] at HSA
  unfold ChEnd at HCH HRC
  unfold CpyEnd at HCP
  generalize chE s i a = q at *
  generalize chN s i a = y at *
  unfold GN.val at *
  clear h40
  generalize hsi : s.id = si at *
  generalize hsc : s.cap = sc at *
  generalize hsn : s.path.length = n at *
  generalize s.path = xs at *
  generalize hyi : y.id = yi at *
  generalize hyc : y.cap = yc at *
  generalize hyn : y.path.length = m at *
  generalize y.path = yp at *
  clear h1 hsi hsc hyi hyc
  obtain ⟨s0, s1, s2⟩ := si
  obtain ⟨p0, p1, p2, p3, p4, p5, p6⟩ := sc
  obtain ⟨i0, i1, i2⟩ := i
  obtain ⟨a0, a1, a2, a3, a4, a5, a6⟩ := a
  obtain ⟨y0, y1, y2⟩ := yi
  obtain ⟨b0, b1, b2, b3, b4, b5, b6⟩ := yc
  have HYN := Lib.hid hyn
  clear hyn hsn
  simp only [GId.val, GC.val] at *
  have hL : Below w.heap.size w (((w.alloc (.cells #[.int .i64 s0, .int .i64 s1, .int .i64 s2, .slice A n c, .int .i64 p0, .int .i64 p1, .int .i64 p2, .int .i64 p3, .int .i64 p4, .int .i64 p5, .bool p6] 28)).alloc (.cells #[.int .i64 i0, .int .i64 i1, .int .i64 i2] 23)).alloc (.cells #[.int .i64 a0, .int .i64 a1, .int .i64 a2, .int .i64 a3, .int .i64 a4, .int .i64 a5, .bool a6] 26)) := belt (belt (belt (Below.refl _ w) _) _) _
  have hA : NB (((w.alloc (.cells #[.int .i64 s0, .int .i64 s1, .int .i64 s2, .slice A n c, .int .i64 p0, .int .i64 p1, .int .i64 p2, .int .i64 p3, .int .i64 p4, .int .i64 p5, .bool p6] 28)).alloc (.cells #[.int .i64 i0, .int .i64 i1, .int .i64 i2] 23)).alloc (.cells #[.int .i64 a0, .int .i64 a1, .int .i64 a2, .int .i64 a3, .int .i64 a4, .int .i64 a5, .bool a6] 26)) w.heap.size ⟨s0, s1, s2⟩ A n c ⟨p0, p1, p2, p3, p4, p5, p6⟩ := (NB.new w ⟨s0, s1, s2⟩ A n c ⟨p0, p1, p2, p3, p4, p5, p6⟩).next (belt (belt (Below.refl _ _) _) _)
  have hB : IB (((w.alloc (.cells #[.int .i64 s0, .int .i64 s1, .int .i64 s2, .slice A n c, .int .i64 p0, .int .i64 p1, .int .i64 p2, .int .i64 p3, .int .i64 p4, .int .i64 p5, .bool p6] 28)).alloc (.cells #[.int .i64 i0, .int .i64 i1, .int .i64 i2] 23)).alloc (.cells #[.int .i64 a0, .int .i64 a1, .int .i64 a2, .int .i64 a3, .int .i64 a4, .int .i64 a5, .bool a6] 26)) (w.heap.size + 1) ⟨i0, i1, i2⟩ := by
    have h := (IB.new (w.alloc (.cells #[.int .i64 s0, .int .i64 s1, .int .i64 s2, .slice A n c, .int .i64 p0, .int .i64 p1, .int .i64 p2, .int .i64 p3, .int .i64 p4, .int .i64 p5, .bool p6] 28)) ⟨i0, i1, i2⟩).next (belt (Below.refl _ _) (.cells #[.int .i64 a0, .int .i64 a1, .int .i64 a2, .int .i64 a3, .int .i64 a4, .int .i64 a5, .bool a6] 26))
    simpa using h
  have hC : CB (((w.alloc (.cells #[.int .i64 s0, .int .i64 s1, .int .i64 s2, .slice A n c, .int .i64 p0, .int .i64 p1, .int .i64 p2, .int .i64 p3, .int .i64 p4, .int .i64 p5, .bool p6] 28)).alloc (.cells #[.int .i64 i0, .int .i64 i1, .int .i64 i2] 23)).alloc (.cells #[.int .i64 a0, .int .i64 a1, .int .i64 a2, .int .i64 a3, .int .i64 a4, .int .i64 a5, .bool a6] 26)) (w.heap.size + 1 + 1) ⟨a0, a1, a2, a3, a4, a5, a6⟩ := by
    have h := CB.new ((w.alloc (.cells #[.int .i64 s0, .int .i64 s1, .int .i64 s2, .slice A n c, .int .i64 p0, .int .i64 p1, .int .i64 p2, .int .i64 p3, .int .i64 p4, .int .i64 p5, .bool p6] 28)).alloc (.cells #[.int .i64 i0, .int .i64 i1, .int .i64 i2] 23)) ⟨a0, a1, a2, a3, a4, a5, a6⟩
    simpa using h
  have HSS : Hid (∀ (W : World) (N j : Nat) (u : Value), w.heap.size + 1 + 1 < N → (Below w.heap.size w W ∧ NB W w.heap.size ⟨s0, s1, s2⟩ A n c ⟨p0, p1, p2, p3, p4, p5, p6⟩ ∧ IB W (w.heap.size + 1) ⟨i0, i1, i2⟩ ∧ CB W (w.heap.size + 1 + 1) ⟨a0, a1, a2, a3, a4, a5, a6⟩) → (Below w.heap.size w (W.setCell ⟨N, j, none⟩ u) ∧ NB (W.setCell ⟨N, j, none⟩ u) w.heap.size ⟨s0, s1, s2⟩ A n c ⟨p0, p1, p2, p3, p4, p5, p6⟩ ∧ IB (W.setCell ⟨N, j, none⟩ u) (w.heap.size + 1) ⟨i0, i1, i2⟩ ∧ CB (W.setCell ⟨N, j, none⟩ u) (w.heap.size + 1 + 1) ⟨a0, a1, a2, a3, a4, a5, a6⟩)) := Lib.hid fun W N j u hN h => ⟨h.1.setCell (p := ⟨N, j, none⟩) (by show w.heap.size ≤ N; omega) u, (Below.heap_setCell W ⟨N, j, none⟩ u w.heap.size (by show w.heap.size ≠ N; omega)).trans h.2.1, (Below.heap_setCell W ⟨N, j, none⟩ u (w.heap.size + 1) (by show w.heap.size + 1 ≠ N; omega)).trans h.2.2.1, (Below.heap_setCell W ⟨N, j, none⟩ u (w.heap.size + 1 + 1) (by show w.heap.size + 1 + 1 ≠ N; omega)).trans h.2.2.2⟩
  go_enter Try.func4, Try.ntmps4
  go_upto_region 3 with fail
  have hS : Below w.heap.size w (((w.alloc (.cells #[.int .i64 s0, .int .i64 s1, .int .i64 s2, .slice A n c, .int .i64 p0, .int .i64 p1, .int .i64 p2, .int .i64 p3, .int .i64 p4, .int .i64 p5, .bool p6] 28)).alloc (.cells #[.int .i64 i0, .int .i64 i1, .int .i64 i2] 23)).alloc (.cells #[.int .i64 a0, .int .i64 a1, .int .i64 a2, .int .i64 a3, .int .i64 a4, .int .i64 a5, .bool a6] 26)).drew ∧ NB (((w.alloc (.cells #[.int .i64 s0, .int .i64 s1, .int .i64 s2, .slice A n c, .int .i64 p0, .int .i64 p1, .int .i64 p2, .int .i64 p3, .int .i64 p4, .int .i64 p5, .bool p6] 28)).alloc (.cells #[.int .i64 i0, .int .i64 i1, .int .i64 i2] 23)).alloc (.cells #[.int .i64 a0, .int .i64 a1, .int .i64 a2, .int .i64 a3, .int .i64 a4, .int .i64 a5, .bool a6] 26)).drew w.heap.size ⟨s0, s1, s2⟩ A n c ⟨p0, p1, p2, p3, p4, p5, p6⟩ ∧ IB (((w.alloc (.cells #[.int .i64 s0, .int .i64 s1, .int .i64 s2, .slice A n c, .int .i64 p0, .int .i64 p1, .int .i64 p2, .int .i64 p3, .int .i64 p4, .int .i64 p5, .bool p6] 28)).alloc (.cells #[.int .i64 i0, .int .i64 i1, .int .i64 i2] 23)).alloc (.cells #[.int .i64 a0, .int .i64 a1, .int .i64 a2, .int .i64 a3, .int .i64 a4, .int .i64 a5, .bool a6] 26)).drew (w.heap.size + 1) ⟨i0, i1, i2⟩ ∧ CB (((w.alloc (.cells #[.int .i64 s0, .int .i64 s1, .int .i64 s2, .slice A n c, .int .i64 p0, .int .i64 p1, .int .i64 p2, .int .i64 p3, .int .i64 p4, .int .i64 p5, .bool p6] 28)).alloc (.cells #[.int .i64 i0, .int .i64 i1, .int .i64 i2] 23)).alloc (.cells #[.int .i64 a0, .int .i64 a1, .int .i64 a2, .int .i64 a3, .int .i64 a4, .int .i64 a5, .bool a6] 26)).drew (w.heap.size + 1 + 1) ⟨a0, a1, a2, a3, a4, a5, a6⟩ := ⟨hL.drew, hA, hB, hC⟩
  clear hL hA hB hC f1
  refine wp_region_gt (S := fun W => Below w.heap.size w W ∧ NB W w.heap.size ⟨s0, s1, s2⟩ A n c ⟨p0, p1, p2, p3, p4, p5, p6⟩ ∧ IB W (w.heap.size + 1) ⟨i0, i1, i2⟩ ∧ CB W (w.heap.size + 1 + 1) ⟨a0, a1, a2, a3, a4, a5, a6⟩) (.fl 0 (.fl 2 (.fl 3 (.two 1 8 (.two 4 8 (.fl 5 (.fl 6 (.fl 7 (.op 8 (.op 9 (.fl 10 .nil)))))) (.op 4 (.fl 5 (.fl 6 (.fl 7 (.op 9 (.fl 10 .nil))))))) (.op 1 (.op 4 (.fl 5 (.fl 6 (.fl 7 (.op 9 (.fl 10 .nil))))))))))) (by kernel_rfl) (by kernel_rfl) (by kernel_rfl) (by kernel_rfl) (by intro c a d v w h; cases d <;> exact h) hS ?_
  iterate 3
    (first
      | (refine wpGT_float (v := ?_) (by simp only [List.getElem?_toArray, List.getElem?_cons_succ, List.getElem?_cons_zero]; rfl) (by rfl) ?_ ?_
         rotate_left
         · (intro W hW; obtain ⟨c0, c1, c2, c3, c4, c5, c6, c7, c8, c9, c10⟩ := NB.cells (hW.2.1); obtain ⟨j0, j1, j2⟩ := IB.cells (hW.2.2.1); obtain ⟨k0, k1, k2, k3, k4, k5, k6⟩ := CB.cells (hW.2.2.2); (try simp only at *); go_simp; try with_reducible rfl)
         simp only [Act.put, List.setIfInBounds_toArray, List.set_cons_zero, List.set_cons_succ])
      | (refine wpGT_skip (by simp only [List.getElem?_toArray, List.getElem?_cons_succ, List.getElem?_cons_zero]; rfl) (by rfl) ?_
         simp only [Act.put, List.setIfInBounds_toArray, List.set_cons_zero, List.set_cons_succ]))
  refine wpGT_two ?_ ?_
  · refine wpOp_call (by simp only [List.getElem?_toArray, List.getElem?_cons_succ, List.getElem?_cons_zero]; rfl) (by rfl) fun K hK => ?_
    go_simp
    go_fit (HCP.out _ hS.1)
    rintro e wn5 ⟨A5, c5, rfl, hc5, hr5, hbn⟩
    have hS : Below w.heap.size w wn5 ∧ NB wn5 w.heap.size ⟨s0, s1, s2⟩ A n c ⟨p0, p1, p2, p3, p4, p5, p6⟩ ∧ IB wn5 (w.heap.size + 1) ⟨i0, i1, i2⟩ ∧ CB wn5 (w.heap.size + 1 + 1) ⟨a0, a1, a2, a3, a4, a5, a6⟩ := ⟨beln (hS.1) hbn, NB.next (hS.2.1) hbn, IB.next (hS.2.2.1) hbn, CB.next (hS.2.2.2) hbn⟩
    go_simp
    refine hK _ _ hS ?_
    clear hK K
    try simp only [Act.put, List.setIfInBounds_toArray, List.set_cons_zero, List.set_cons_succ]
    refine wpGT_two ?_ ?_
    · refine wpOp_call (by simp only [List.getElem?_toArray, List.getElem?_cons_succ, List.getElem?_cons_zero]; rfl) (by rfl) fun K hK => ?_
      go_simp
      go_fit (HCH.out A5 c5 _ hr5 hc5)
      rintro e wn ⟨A6, c6, rfl, hc6, ho6, hbn⟩
      have hS : Below w.heap.size w wn ∧ NB wn w.heap.size ⟨s0, s1, s2⟩ A n c ⟨p0, p1, p2, p3, p4, p5, p6⟩ ∧ IB wn (w.heap.size + 1) ⟨i0, i1, i2⟩ ∧ CB wn (w.heap.size + 1 + 1) ⟨a0, a1, a2, a3, a4, a5, a6⟩ := ⟨beln (hS.1) hbn, NB.next (hS.2.1) hbn, IB.next (hS.2.2.1) hbn, CB.next (hS.2.2.2) hbn⟩
      go_simp
      refine hK _ _ hS ?_
      clear hK K
      try simp only [Act.put, List.setIfInBounds_toArray, List.set_cons_zero, List.set_cons_succ]
      iterate 3
        (first
          | (refine wpGT_float (v := ?_) (by simp only [List.getElem?_toArray, List.getElem?_cons_succ, List.getElem?_cons_zero]; rfl) (by rfl) ?_ ?_
             rotate_left
             · (intro W hW; obtain ⟨c0, c1, c2, c3, c4, c5, c6, c7, c8, c9, c10⟩ := NB.cells (hW.2.1); obtain ⟨j0, j1, j2⟩ := IB.cells (hW.2.2.1); obtain ⟨k0, k1, k2, k3, k4, k5, k6⟩ := CB.cells (hW.2.2.2); (try simp only at *); go_simp; try with_reducible rfl)
             simp only [Act.put, List.setIfInBounds_toArray, List.set_cons_zero, List.set_cons_succ])
          | (refine wpGT_skip (by simp only [List.getElem?_toArray, List.getElem?_cons_succ, List.getElem?_cons_zero]; rfl) (by rfl) ?_
             simp only [Act.put, List.setIfInBounds_toArray, List.set_cons_zero, List.set_cons_succ]))
      refine wpGT_call (by simp only [List.getElem?_toArray, List.getElem?_cons_succ, List.getElem?_cons_zero]; rfl) (by rfl) fun K hK => ?_
      have hSq : Below w.heap.size w (wn.alloc (.cells #[.int .i64 0, .int .i64 0, .int .i64 0, .slice none 0 0, .int .i64 0, .int .i64 0, .int .i64 0, .int .i64 0, .int .i64 0, .int .i64 0, .bool false] 28)) ∧ NB (wn.alloc (.cells #[.int .i64 0, .int .i64 0, .int .i64 0, .slice none 0 0, .int .i64 0, .int .i64 0, .int .i64 0, .int .i64 0, .int .i64 0, .int .i64 0, .bool false] 28)) w.heap.size ⟨s0, s1, s2⟩ A n c ⟨p0, p1, p2, p3, p4, p5, p6⟩ ∧ IB (wn.alloc (.cells #[.int .i64 0, .int .i64 0, .int .i64 0, .slice none 0 0, .int .i64 0, .int .i64 0, .int .i64 0, .int .i64 0, .int .i64 0, .int .i64 0, .bool false] 28)) (w.heap.size + 1) ⟨i0, i1, i2⟩ ∧ CB (wn.alloc (.cells #[.int .i64 0, .int .i64 0, .int .i64 0, .slice none 0 0, .int .i64 0, .int .i64 0, .int .i64 0, .int .i64 0, .int .i64 0, .int .i64 0, .bool false] 28)) (w.heap.size + 1 + 1) ⟨a0, a1, a2, a3, a4, a5, a6⟩ := ⟨beln (hS.1) (belt (Below.refl _ wn) (.cells #[.int .i64 0, .int .i64 0, .int .i64 0, .slice none 0 0, .int .i64 0, .int .i64 0, .int .i64 0, .int .i64 0, .int .i64 0, .int .i64 0, .bool false] 28)), NB.next (hS.2.1) (belt (Below.refl _ wn) (.cells #[.int .i64 0, .int .i64 0, .int .i64 0, .slice none 0 0, .int .i64 0, .int .i64 0, .int .i64 0, .int .i64 0, .int .i64 0, .int .i64 0, .bool false] 28)), IB.next (hS.2.2.1) (belt (Below.refl _ wn) (.cells #[.int .i64 0, .int .i64 0, .int .i64 0, .slice none 0 0, .int .i64 0, .int .i64 0, .int .i64 0, .int .i64 0, .int .i64 0, .int .i64 0, .bool false] 28)), CB.next (hS.2.2.2) (belt (Below.refl _ wn) (.cells #[.int .i64 0, .int .i64 0, .int .i64 0, .slice none 0 0, .int .i64 0, .int .i64 0, .int .i64 0, .int .i64 0, .int .i64 0, .int .i64 0, .bool false] 28))⟩
      go_simp
      refine hK _ _ hSq ?_
      clear hK K
      try simp only [Act.put, List.setIfInBounds_toArray, List.set_cons_zero, List.set_cons_succ]
      refine wpGT_call (by simp only [List.getElem?_toArray, List.getElem?_cons_succ, List.getElem?_cons_zero]; rfl) (by rfl) fun K hK => ?_
      have hS9 : Below w.heap.size w (wn.alloc (.cells #[.int .i64 y0, .int .i64 y1, .int .i64 y2, .slice A6 m c6, .int .i64 b0, .int .i64 b1, .int .i64 b2, .int .i64 b3, .int .i64 b4, .int .i64 b5, .bool b6] 28)) ∧ NB (wn.alloc (.cells #[.int .i64 y0, .int .i64 y1, .int .i64 y2, .slice A6 m c6, .int .i64 b0, .int .i64 b1, .int .i64 b2, .int .i64 b3, .int .i64 b4, .int .i64 b5, .bool b6] 28)) w.heap.size ⟨s0, s1, s2⟩ A n c ⟨p0, p1, p2, p3, p4, p5, p6⟩ ∧ IB (wn.alloc (.cells #[.int .i64 y0, .int .i64 y1, .int .i64 y2, .slice A6 m c6, .int .i64 b0, .int .i64 b1, .int .i64 b2, .int .i64 b3, .int .i64 b4, .int .i64 b5, .bool b6] 28)) (w.heap.size + 1) ⟨i0, i1, i2⟩ ∧ CB (wn.alloc (.cells #[.int .i64 y0, .int .i64 y1, .int .i64 y2, .slice A6 m c6, .int .i64 b0, .int .i64 b1, .int .i64 b2, .int .i64 b3, .int .i64 b4, .int .i64 b5, .bool b6] 28)) (w.heap.size + 1 + 1) ⟨a0, a1, a2, a3, a4, a5, a6⟩ := ⟨beln (hS.1) (belt (Below.refl _ wn) (.cells #[.int .i64 y0, .int .i64 y1, .int .i64 y2, .slice A6 m c6, .int .i64 b0, .int .i64 b1, .int .i64 b2, .int .i64 b3, .int .i64 b4, .int .i64 b5, .bool b6] 28)), NB.next (hS.2.1) (belt (Below.refl _ wn) (.cells #[.int .i64 y0, .int .i64 y1, .int .i64 y2, .slice A6 m c6, .int .i64 b0, .int .i64 b1, .int .i64 b2, .int .i64 b3, .int .i64 b4, .int .i64 b5, .bool b6] 28)), IB.next (hS.2.2.1) (belt (Below.refl _ wn) (.cells #[.int .i64 y0, .int .i64 y1, .int .i64 y2, .slice A6 m c6, .int .i64 b0, .int .i64 b1, .int .i64 b2, .int .i64 b3, .int .i64 b4, .int .i64 b5, .bool b6] 28)), CB.next (hS.2.2.2) (belt (Below.refl _ wn) (.cells #[.int .i64 y0, .int .i64 y1, .int .i64 y2, .slice A6 m c6, .int .i64 b0, .int .i64 b1, .int .i64 b2, .int .i64 b3, .int .i64 b4, .int .i64 b5, .bool b6] 28))⟩
      go_simp
      refine hK _ _ hS9 ?_
      clear hK K
      try simp only [Act.put, List.setIfInBounds_toArray, List.set_cons_zero, List.set_cons_succ]
      iterate 1
        (first
          | (refine wpGT_float (v := ?_) (by simp only [List.getElem?_toArray, List.getElem?_cons_succ, List.getElem?_cons_zero]; rfl) (by rfl) ?_ ?_
             rotate_left
             · (intro W hW; obtain ⟨c0, c1, c2, c3, c4, c5, c6, c7, c8, c9, c10⟩ := NB.cells (hW.2.1); obtain ⟨j0, j1, j2⟩ := IB.cells (hW.2.2.1); obtain ⟨k0, k1, k2, k3, k4, k5, k6⟩ := CB.cells (hW.2.2.2); (try simp only at *); go_simp; try with_reducible rfl)
             simp only [Act.put, List.setIfInBounds_toArray, List.set_cons_zero, List.set_cons_succ])
          | (refine wpGT_skip (by simp only [List.getElem?_toArray, List.getElem?_cons_succ, List.getElem?_cons_zero]; rfl) (by rfl) ?_
             simp only [Act.put, List.setIfInBounds_toArray, List.set_cons_zero, List.set_cons_succ]))
      have hN9 : NB (wn.alloc (.cells #[.int .i64 y0, .int .i64 y1, .int .i64 y2, .slice A6 m c6, .int .i64 b0, .int .i64 b1, .int .i64 b2, .int .i64 b3, .int .i64 b4, .int .i64 b5, .bool b6] 28)) wn.heap.size ⟨y0, y1, y2⟩ A6 m c6 ⟨b0, b1, b2, b3, b4, b5, b6⟩ := NB.new wn ⟨y0, y1, y2⟩ A6 m c6 ⟨b0, b1, b2, b3, b4, b5, b6⟩
      have hr9 := (ho6.rowAt GId.len).2.next (belt (Below.refl _ wn) (.cells #[.int .i64 y0, .int .i64 y1, .int .i64 y2, .slice A6 m c6, .int .i64 b0, .int .i64 b1, .int .i64 b2, .int .i64 b3, .int .i64 b4, .int .i64 b5, .bool b6] 28))
      refine wpGT_nil ?_
      have HS9 := Lib.hid hS9
      have HN9 := Lib.hid hN9
      have HR9 := Lib.hid hr9
      clear hS9 hN9 hr9 hS
      obtain ⟨d0, d1, d2, d3, d4, d5, d6, d7, d8, d9, d10⟩ := HS9.out.2.1.cells
      obtain ⟨j0, j1, j2⟩ := HS9.out.2.2.1.cells
      obtain ⟨k0, k1, k2, k3, k4, k5, k6⟩ := HS9.out.2.2.2.cells
      try simp only at d0 d1 d2 d3 d4 d5 d6 d7 d8 d9 d10 j0 j1 j2 k0 k1 k2 k3 k4 k5 k6
      go_wp2_with fail
      go_fit (HRC.out _ HS9.out.1)
      rintro e w10 ⟨A10, c10, rfl, hc10, ho10, hb10⟩
      have hbq := belt (Below.refl _ w10) (.cells #[.int .i64 y0, .int .i64 y1, .int .i64 y2, .slice A10 m c10, .int .i64 b0, .int .i64 b1, .int .i64 b2, .int .i64 b3, .int .i64 b4, .int .i64 b5, .bool b6] 28)
      have HB10 := Lib.hid (beln (beln HS9.out.1 hb10) hbq)
      have HN10 := Lib.hid ((HN9.out.next hb10).next hbq)
      have HR10 := Lib.hid ((HR9.out.next hb10).next hbq)
      have HNY : Hid (NB (w10.alloc (.cells #[.int .i64 y0, .int .i64 y1, .int .i64 y2, .slice A10 m c10, .int .i64 b0, .int .i64 b1, .int .i64 b2, .int .i64 b3, .int .i64 b4, .int .i64 b5, .bool b6] 28)) w10.heap.size ⟨y0, y1, y2⟩ A10 m c10 ⟨b0, b1, b2, b3, b4, b5, b6⟩) := Lib.hid (NB.new w10 ⟨y0, y1, y2⟩ A10 m c10 ⟨b0, b1, b2, b3, b4, b5, b6⟩)
      have HRY := Lib.hid ((ho10.rowAt GId.len).2.next hbq)
      clear hbq hb10 ho10 HS9 HN9 HR9 d0 d1 d2 d3 d4 d5 d6 d7 d8 d9 d10 j0 j1 j2 k0 k1 k2 k3 k4 k5 k6
      obtain ⟨d0, d1, d2, d3, d4, d5, d6, d7, d8, d9, d10⟩ := HN10.out.cells
      obtain ⟨f0, f1, f2, f3, f4, f5, f6, f7, f8, f9, f10⟩ := HNY.out.cells
      try simp only at d0 d1 d2 d3 d4 d5 d6 d7 d8 d9 d10 f0 f1 f2 f3 f4 f5 f6 f7 f8 f9 f10
      go_wp2_with fail
      go_fit (HSA.out _ _ _ _ _ HR10.out HRY.out HYL.out HYL.out)
      rintro e w11 ⟨rfl, hb11⟩
      have HB11 := Lib.hid (beln HB10.out hb11)
      clear hb11 d0 d1 d2 d3 d4 d5 d6 d7 d8 d9 d10 f0 f1 f2 f3 f4 f5 f6 f7 f8 f9 f10
      go_wp2_with fail
      go_fit (HAW.out _)
      rintro e w12 ⟨rfl, hb12⟩
      have HB12 := Lib.hid (beln HB11.out hb12)
      clear hb12
      go_wp2
      go_ret
      exact ⟨rfl, HB12.out⟩
    · refine wpOp_call (by simp only [List.getElem?_toArray, List.getElem?_cons_succ, List.getElem?_cons_zero]; rfl) (by rfl) fun K hK => ?_
      have hSq : Below w.heap.size w (wn5.alloc (.cells #[.int .i64 0, .int .i64 0, .int .i64 0, .slice none 0 0, .int .i64 0, .int .i64 0, .int .i64 0, .int .i64 0, .int .i64 0, .int .i64 0, .bool false] 28)) ∧ NB (wn5.alloc (.cells #[.int .i64 0, .int .i64 0, .int .i64 0, .slice none 0 0, .int .i64 0, .int .i64 0, .int .i64 0, .int .i64 0, .int .i64 0, .int .i64 0, .bool false] 28)) w.heap.size ⟨s0, s1, s2⟩ A n c ⟨p0, p1, p2, p3, p4, p5, p6⟩ ∧ IB (wn5.alloc (.cells #[.int .i64 0, .int .i64 0, .int .i64 0, .slice none 0 0, .int .i64 0, .int .i64 0, .int .i64 0, .int .i64 0, .int .i64 0, .int .i64 0, .bool false] 28)) (w.heap.size + 1) ⟨i0, i1, i2⟩ ∧ CB (wn5.alloc (.cells #[.int .i64 0, .int .i64 0, .int .i64 0, .slice none 0 0, .int .i64 0, .int .i64 0, .int .i64 0, .int .i64 0, .int .i64 0, .int .i64 0, .bool false] 28)) (w.heap.size + 1 + 1) ⟨a0, a1, a2, a3, a4, a5, a6⟩ := ⟨beln (hS.1) (belt (Below.refl _ wn5) (.cells #[.int .i64 0, .int .i64 0, .int .i64 0, .slice none 0 0, .int .i64 0, .int .i64 0, .int .i64 0, .int .i64 0, .int .i64 0, .int .i64 0, .bool false] 28)), NB.next (hS.2.1) (belt (Below.refl _ wn5) (.cells #[.int .i64 0, .int .i64 0, .int .i64 0, .slice none 0 0, .int .i64 0, .int .i64 0, .int .i64 0, .int .i64 0, .int .i64 0, .int .i64 0, .bool false] 28)), IB.next (hS.2.2.1) (belt (Below.refl _ wn5) (.cells #[.int .i64 0, .int .i64 0, .int .i64 0, .slice none 0 0, .int .i64 0, .int .i64 0, .int .i64 0, .int .i64 0, .int .i64 0, .int .i64 0, .bool false] 28)), CB.next (hS.2.2.2) (belt (Below.refl _ wn5) (.cells #[.int .i64 0, .int .i64 0, .int .i64 0, .slice none 0 0, .int .i64 0, .int .i64 0, .int .i64 0, .int .i64 0, .int .i64 0, .int .i64 0, .bool false] 28))⟩
      have hzq : NB (wn5.alloc (.cells #[.int .i64 0, .int .i64 0, .int .i64 0, .slice none 0 0, .int .i64 0, .int .i64 0, .int .i64 0, .int .i64 0, .int .i64 0, .int .i64 0, .bool false] 28)) wn5.heap.size ⟨0, 0, 0⟩ none 0 0 ⟨0, 0, 0, 0, 0, 0, false⟩ := NB.new wn5 ⟨0, 0, 0⟩ none 0 0 ⟨0, 0, 0, 0, 0, 0, false⟩
      have hNw : w.heap.size + 1 + 1 < wn5.heap.size := hS.2.2.2.lt
      have hNb : wn5.heap.size < (wn5.alloc (.cells #[.int .i64 0, .int .i64 0, .int .i64 0, .slice none 0 0, .int .i64 0, .int .i64 0, .int .i64 0, .int .i64 0, .int .i64 0, .int .i64 0, .bool false] 28)).heap.size := by simp
      have hr5 := hr5.next (belt (Below.refl _ wn5) (.cells #[.int .i64 0, .int .i64 0, .int .i64 0, .slice none 0 0, .int .i64 0, .int .i64 0, .int .i64 0, .int .i64 0, .int .i64 0, .int .i64 0, .bool false] 28))
      go_simp
      refine hK _ _ hSq ?_
      clear hK K
      try simp only [Act.put, List.setIfInBounds_toArray, List.set_cons_zero, List.set_cons_succ]
      have hS := hSq
      refine wpGT_call (by simp only [List.getElem?_toArray, List.getElem?_cons_succ, List.getElem?_cons_zero]; rfl) (by rfl) fun K hK => ?_
      go_simp
      go_fit (HCH.out A5 c5 _ hr5 hc5)
      rintro e wn ⟨A6, c6, rfl, hc6, ho6, hbn⟩
      have hS : Below w.heap.size w wn ∧ NB wn w.heap.size ⟨s0, s1, s2⟩ A n c ⟨p0, p1, p2, p3, p4, p5, p6⟩ ∧ IB wn (w.heap.size + 1) ⟨i0, i1, i2⟩ ∧ CB wn (w.heap.size + 1 + 1) ⟨a0, a1, a2, a3, a4, a5, a6⟩ := ⟨beln (hS.1) hbn, NB.next (hS.2.1) hbn, IB.next (hS.2.2.1) hbn, CB.next (hS.2.2.2) hbn⟩
      have hz := hzq.next hbn
      go_simp
      refine hK _ _ hS ?_
      clear hK K
      try simp only [Act.put, List.setIfInBounds_toArray, List.set_cons_zero, List.set_cons_succ]
      iterate 3
        (first
          | (refine wpGT_float (v := ?_) (by simp only [List.getElem?_toArray, List.getElem?_cons_succ, List.getElem?_cons_zero]; rfl) (by rfl) ?_ ?_
             rotate_left
             · (intro W hW; obtain ⟨c0, c1, c2, c3, c4, c5, c6, c7, c8, c9, c10⟩ := NB.cells (hW.2.1); obtain ⟨j0, j1, j2⟩ := IB.cells (hW.2.2.1); obtain ⟨k0, k1, k2, k3, k4, k5, k6⟩ := CB.cells (hW.2.2.2); (try simp only at *); go_simp; try with_reducible rfl)
             simp only [Act.put, List.setIfInBounds_toArray, List.set_cons_zero, List.set_cons_succ])
          | (refine wpGT_skip (by simp only [List.getElem?_toArray, List.getElem?_cons_succ, List.getElem?_cons_zero]; rfl) (by rfl) ?_
             simp only [Act.put, List.setIfInBounds_toArray, List.set_cons_zero, List.set_cons_succ]))
      refine wpGT_call (by simp only [List.getElem?_toArray, List.getElem?_cons_succ, List.getElem?_cons_zero]; rfl) (by rfl) fun K hK => ?_
      obtain ⟨z0, z1, z2, z3, z4, z5, z6, z7, z8, z9, z10⟩ := hz.cells
      have zf := hz.frz
      have zl := hz.lt
      try simp only at z0 z1 z2 z3 z4 z5 z6 z7 z8 z9 z10
      go_simp
      have hS9 : Below w.heap.size w (((((((((((wn.setCell ⟨wn5.heap.size, 0, none⟩ (.int .i64 y0)).setCell ⟨wn5.heap.size, 1, none⟩ (.int .i64 y1)).setCell ⟨wn5.heap.size, 2, none⟩ (.int .i64 y2)).setCell ⟨wn5.heap.size, 3, none⟩ (.slice A6 m c6)).setCell ⟨wn5.heap.size, 4, none⟩ (.int .i64 b0)).setCell ⟨wn5.heap.size, 5, none⟩ (.int .i64 b1)).setCell ⟨wn5.heap.size, 6, none⟩ (.int .i64 b2)).setCell ⟨wn5.heap.size, 7, none⟩ (.int .i64 b3)).setCell ⟨wn5.heap.size, 8, none⟩ (.int .i64 b4)).setCell ⟨wn5.heap.size, 9, none⟩ (.int .i64 b5)).setCell ⟨wn5.heap.size, 10, none⟩ (.bool b6)) ∧ NB (((((((((((wn.setCell ⟨wn5.heap.size, 0, none⟩ (.int .i64 y0)).setCell ⟨wn5.heap.size, 1, none⟩ (.int .i64 y1)).setCell ⟨wn5.heap.size, 2, none⟩ (.int .i64 y2)).setCell ⟨wn5.heap.size, 3, none⟩ (.slice A6 m c6)).setCell ⟨wn5.heap.size, 4, none⟩ (.int .i64 b0)).setCell ⟨wn5.heap.size, 5, none⟩ (.int .i64 b1)).setCell ⟨wn5.heap.size, 6, none⟩ (.int .i64 b2)).setCell ⟨wn5.heap.size, 7, none⟩ (.int .i64 b3)).setCell ⟨wn5.heap.size, 8, none⟩ (.int .i64 b4)).setCell ⟨wn5.heap.size, 9, none⟩ (.int .i64 b5)).setCell ⟨wn5.heap.size, 10, none⟩ (.bool b6)) w.heap.size ⟨s0, s1, s2⟩ A n c ⟨p0, p1, p2, p3, p4, p5, p6⟩ ∧ IB (((((((((((wn.setCell ⟨wn5.heap.size, 0, none⟩ (.int .i64 y0)).setCell ⟨wn5.heap.size, 1, none⟩ (.int .i64 y1)).setCell ⟨wn5.heap.size, 2, none⟩ (.int .i64 y2)).setCell ⟨wn5.heap.size, 3, none⟩ (.slice A6 m c6)).setCell ⟨wn5.heap.size, 4, none⟩ (.int .i64 b0)).setCell ⟨wn5.heap.size, 5, none⟩ (.int .i64 b1)).setCell ⟨wn5.heap.size, 6, none⟩ (.int .i64 b2)).setCell ⟨wn5.heap.size, 7, none⟩ (.int .i64 b3)).setCell ⟨wn5.heap.size, 8, none⟩ (.int .i64 b4)).setCell ⟨wn5.heap.size, 9, none⟩ (.int .i64 b5)).setCell ⟨wn5.heap.size, 10, none⟩ (.bool b6)) (w.heap.size + 1) ⟨i0, i1, i2⟩ ∧ CB (((((((((((wn.setCell ⟨wn5.heap.size, 0, none⟩ (.int .i64 y0)).setCell ⟨wn5.heap.size, 1, none⟩ (.int .i64 y1)).setCell ⟨wn5.heap.size, 2, none⟩ (.int .i64 y2)).setCell ⟨wn5.heap.size, 3, none⟩ (.slice A6 m c6)).setCell ⟨wn5.heap.size, 4, none⟩ (.int .i64 b0)).setCell ⟨wn5.heap.size, 5, none⟩ (.int .i64 b1)).setCell ⟨wn5.heap.size, 6, none⟩ (.int .i64 b2)).setCell ⟨wn5.heap.size, 7, none⟩ (.int .i64 b3)).setCell ⟨wn5.heap.size, 8, none⟩ (.int .i64 b4)).setCell ⟨wn5.heap.size, 9, none⟩ (.int .i64 b5)).setCell ⟨wn5.heap.size, 10, none⟩ (.bool b6)) (w.heap.size + 1 + 1) ⟨a0, a1, a2, a3, a4, a5, a6⟩ := by
        repeat (refine HSS.out _ wn5.heap.size _ _ hNw ?_)
        exact hS
      have hN9 := hz.store ⟨y0, y1, y2⟩ A6 m c6 ⟨b0, b1, b2, b3, b4, b5, b6⟩
      have hr9 : PRow (((((((((((wn.setCell ⟨wn5.heap.size, 0, none⟩ (.int .i64 y0)).setCell ⟨wn5.heap.size, 1, none⟩ (.int .i64 y1)).setCell ⟨wn5.heap.size, 2, none⟩ (.int .i64 y2)).setCell ⟨wn5.heap.size, 3, none⟩ (.slice A6 m c6)).setCell ⟨wn5.heap.size, 4, none⟩ (.int .i64 b0)).setCell ⟨wn5.heap.size, 5, none⟩ (.int .i64 b1)).setCell ⟨wn5.heap.size, 6, none⟩ (.int .i64 b2)).setCell ⟨wn5.heap.size, 7, none⟩ (.int .i64 b3)).setCell ⟨wn5.heap.size, 8, none⟩ (.int .i64 b4)).setCell ⟨wn5.heap.size, 9, none⟩ (.int .i64 b5)).setCell ⟨wn5.heap.size, 10, none⟩ (.bool b6)) (((((((((((wn.setCell ⟨wn5.heap.size, 0, none⟩ (.int .i64 y0)).setCell ⟨wn5.heap.size, 1, none⟩ (.int .i64 y1)).setCell ⟨wn5.heap.size, 2, none⟩ (.int .i64 y2)).setCell ⟨wn5.heap.size, 3, none⟩ (.slice A6 m c6)).setCell ⟨wn5.heap.size, 4, none⟩ (.int .i64 b0)).setCell ⟨wn5.heap.size, 5, none⟩ (.int .i64 b1)).setCell ⟨wn5.heap.size, 6, none⟩ (.int .i64 b2)).setCell ⟨wn5.heap.size, 7, none⟩ (.int .i64 b3)).setCell ⟨wn5.heap.size, 8, none⟩ (.int .i64 b4)).setCell ⟨wn5.heap.size, 9, none⟩ (.int .i64 b5)).setCell ⟨wn5.heap.size, 10, none⟩ (.bool b6)).heap.size A6 yp := by
        refine (OwnG.rowAt (T := 23) (base := (wn5.alloc (.cells #[.int .i64 0, .int .i64 0, .int .i64 0, .slice none 0 0, .int .i64 0, .int .i64 0, .int .i64 0, .int .i64 0, .int .i64 0, .int .i64 0, .bool false] 28)).heap.size) (n := m) (c := c6) GId.len ?_).2
        repeat (refine OwnG.setOther ?_ hNb _ _)
        exact ho6
      refine hK _ _ hS9 ?_
      clear hK K
      try simp only [Act.put, List.setIfInBounds_toArray, List.set_cons_zero, List.set_cons_succ]
      iterate 1
        (first
          | (refine wpGT_float (v := ?_) (by simp only [List.getElem?_toArray, List.getElem?_cons_succ, List.getElem?_cons_zero]; rfl) (by rfl) ?_ ?_
             rotate_left
             · (intro W hW; obtain ⟨c0, c1, c2, c3, c4, c5, c6, c7, c8, c9, c10⟩ := NB.cells (hW.2.1); obtain ⟨j0, j1, j2⟩ := IB.cells (hW.2.2.1); obtain ⟨k0, k1, k2, k3, k4, k5, k6⟩ := CB.cells (hW.2.2.2); (try simp only at *); go_simp; try with_reducible rfl)
             simp only [Act.put, List.setIfInBounds_toArray, List.set_cons_zero, List.set_cons_succ])
          | (refine wpGT_skip (by simp only [List.getElem?_toArray, List.getElem?_cons_succ, List.getElem?_cons_zero]; rfl) (by rfl) ?_
             simp only [Act.put, List.setIfInBounds_toArray, List.set_cons_zero, List.set_cons_succ]))
      clear z0 z1 z2 z3 z4 z5 z6 z7 z8 z9 z10 zf zl hz
      refine wpGT_nil ?_
      have HS9 := Lib.hid hS9
      have HN9 := Lib.hid hN9
      have HR9 := Lib.hid hr9
      clear hS9 hN9 hr9 hS
      obtain ⟨d0, d1, d2, d3, d4, d5, d6, d7, d8, d9, d10⟩ := HS9.out.2.1.cells
      obtain ⟨j0, j1, j2⟩ := HS9.out.2.2.1.cells
      obtain ⟨k0, k1, k2, k3, k4, k5, k6⟩ := HS9.out.2.2.2.cells
      try simp only at d0 d1 d2 d3 d4 d5 d6 d7 d8 d9 d10 j0 j1 j2 k0 k1 k2 k3 k4 k5 k6
      go_wp2_with fail
      go_fit (HRC.out _ HS9.out.1)
      rintro e w10 ⟨A10, c10, rfl, hc10, ho10, hb10⟩
      have hbq := belt (Below.refl _ w10) (.cells #[.int .i64 y0, .int .i64 y1, .int .i64 y2, .slice A10 m c10, .int .i64 b0, .int .i64 b1, .int .i64 b2, .int .i64 b3, .int .i64 b4, .int .i64 b5, .bool b6] 28)
      have HB10 := Lib.hid (beln (beln HS9.out.1 hb10) hbq)
      have HN10 := Lib.hid ((HN9.out.next hb10).next hbq)
      have HR10 := Lib.hid ((HR9.out.next hb10).next hbq)
      have HNY : Hid (NB (w10.alloc (.cells #[.int .i64 y0, .int .i64 y1, .int .i64 y2, .slice A10 m c10, .int .i64 b0, .int .i64 b1, .int .i64 b2, .int .i64 b3, .int .i64 b4, .int .i64 b5, .bool b6] 28)) w10.heap.size ⟨y0, y1, y2⟩ A10 m c10 ⟨b0, b1, b2, b3, b4, b5, b6⟩) := Lib.hid (NB.new w10 ⟨y0, y1, y2⟩ A10 m c10 ⟨b0, b1, b2, b3, b4, b5, b6⟩)
      have HRY := Lib.hid ((ho10.rowAt GId.len).2.next hbq)
      clear hbq hb10 ho10 HS9 HN9 HR9 d0 d1 d2 d3 d4 d5 d6 d7 d8 d9 d10 j0 j1 j2 k0 k1 k2 k3 k4 k5 k6
      obtain ⟨d0, d1, d2, d3, d4, d5, d6, d7, d8, d9, d10⟩ := HN10.out.cells
      obtain ⟨f0, f1, f2, f3, f4, f5, f6, f7, f8, f9, f10⟩ := HNY.out.cells
      try simp only at d0 d1 d2 d3 d4 d5 d6 d7 d8 d9 d10 f0 f1 f2 f3 f4 f5 f6 f7 f8 f9 f10
      go_wp2_with fail
      go_fit (HSA.out _ _ _ _ _ HR10.out HRY.out HYL.out HYL.out)
      rintro e w11 ⟨rfl, hb11⟩
      have HB11 := Lib.hid (beln HB10.out hb11)
      clear hb11 d0 d1 d2 d3 d4 d5 d6 d7 d8 d9 d10 f0 f1 f2 f3 f4 f5 f6 f7 f8 f9 f10
      go_wp2_with fail
      go_fit (HAW.out _)
      rintro e w12 ⟨rfl, hb12⟩
      have HB12 := Lib.hid (beln HB11.out hb12)
      clear hb12
      go_wp2
      go_ret
      exact ⟨rfl, HB12.out⟩
  · refine wpOp_call (by simp only [List.getElem?_toArray, List.getElem?_cons_succ, List.getElem?_cons_zero]; rfl) (by rfl) fun K hK => ?_
    have hSq : Below w.heap.size w ((((w.alloc (.cells #[.int .i64 s0, .int .i64 s1, .int .i64 s2, .slice A n c, .int .i64 p0, .int .i64 p1, .int .i64 p2, .int .i64 p3, .int .i64 p4, .int .i64 p5, .bool p6] 28)).alloc (.cells #[.int .i64 i0, .int .i64 i1, .int .i64 i2] 23)).alloc (.cells #[.int .i64 a0, .int .i64 a1, .int .i64 a2, .int .i64 a3, .int .i64 a4, .int .i64 a5, .bool a6] 26)).drew.alloc (.cells #[.int .i64 0, .int .i64 0, .int .i64 0, .slice none 0 0, .int .i64 0, .int .i64 0, .int .i64 0, .int .i64 0, .int .i64 0, .int .i64 0, .bool false] 28)) ∧ NB ((((w.alloc (.cells #[.int .i64 s0, .int .i64 s1, .int .i64 s2, .slice A n c, .int .i64 p0, .int .i64 p1, .int .i64 p2, .int .i64 p3, .int .i64 p4, .int .i64 p5, .bool p6] 28)).alloc (.cells #[.int .i64 i0, .int .i64 i1, .int .i64 i2] 23)).alloc (.cells #[.int .i64 a0, .int .i64 a1, .int .i64 a2, .int .i64 a3, .int .i64 a4, .int .i64 a5, .bool a6] 26)).drew.alloc (.cells #[.int .i64 0, .int .i64 0, .int .i64 0, .slice none 0 0, .int .i64 0, .int .i64 0, .int .i64 0, .int .i64 0, .int .i64 0, .int .i64 0, .bool false] 28)) w.heap.size ⟨s0, s1, s2⟩ A n c ⟨p0, p1, p2, p3, p4, p5, p6⟩ ∧ IB ((((w.alloc (.cells #[.int .i64 s0, .int .i64 s1, .int .i64 s2, .slice A n c, .int .i64 p0, .int .i64 p1, .int .i64 p2, .int .i64 p3, .int .i64 p4, .int .i64 p5, .bool p6] 28)).alloc (.cells #[.int .i64 i0, .int .i64 i1, .int .i64 i2] 23)).alloc (.cells #[.int .i64 a0, .int .i64 a1, .int .i64 a2, .int .i64 a3, .int .i64 a4, .int .i64 a5, .bool a6] 26)).drew.alloc (.cells #[.int .i64 0, .int .i64 0, .int .i64 0, .slice none 0 0, .int .i64 0, .int .i64 0, .int .i64 0, .int .i64 0, .int .i64 0, .int .i64 0, .bool false] 28)) (w.heap.size + 1) ⟨i0, i1, i2⟩ ∧ CB ((((w.alloc (.cells #[.int .i64 s0, .int .i64 s1, .int .i64 s2, .slice A n c, .int .i64 p0, .int .i64 p1, .int .i64 p2, .int .i64 p3, .int .i64 p4, .int .i64 p5, .bool p6] 28)).alloc (.cells #[.int .i64 i0, .int .i64 i1, .int .i64 i2] 23)).alloc (.cells #[.int .i64 a0, .int .i64 a1, .int .i64 a2, .int .i64 a3, .int .i64 a4, .int .i64 a5, .bool a6] 26)).drew.alloc (.cells #[.int .i64 0, .int .i64 0, .int .i64 0, .slice none 0 0, .int .i64 0, .int .i64 0, .int .i64 0, .int .i64 0, .int .i64 0, .int .i64 0, .bool false] 28)) (w.heap.size + 1 + 1) ⟨a0, a1, a2, a3, a4, a5, a6⟩ := ⟨beln (hS.1) (belt (Below.refl _ (((w.alloc (.cells #[.int .i64 s0, .int .i64 s1, .int .i64 s2, .slice A n c, .int .i64 p0, .int .i64 p1, .int .i64 p2, .int .i64 p3, .int .i64 p4, .int .i64 p5, .bool p6] 28)).alloc (.cells #[.int .i64 i0, .int .i64 i1, .int .i64 i2] 23)).alloc (.cells #[.int .i64 a0, .int .i64 a1, .int .i64 a2, .int .i64 a3, .int .i64 a4, .int .i64 a5, .bool a6] 26)).drew) (.cells #[.int .i64 0, .int .i64 0, .int .i64 0, .slice none 0 0, .int .i64 0, .int .i64 0, .int .i64 0, .int .i64 0, .int .i64 0, .int .i64 0, .bool false] 28)), NB.next (hS.2.1) (belt (Below.refl _ (((w.alloc (.cells #[.int .i64 s0, .int .i64 s1, .int .i64 s2, .slice A n c, .int .i64 p0, .int .i64 p1, .int .i64 p2, .int .i64 p3, .int .i64 p4, .int .i64 p5, .bool p6] 28)).alloc (.cells #[.int .i64 i0, .int .i64 i1, .int .i64 i2] 23)).alloc (.cells #[.int .i64 a0, .int .i64 a1, .int .i64 a2, .int .i64 a3, .int .i64 a4, .int .i64 a5, .bool a6] 26)).drew) (.cells #[.int .i64 0, .int .i64 0, .int .i64 0, .slice none 0 0, .int .i64 0, .int .i64 0, .int .i64 0, .int .i64 0, .int .i64 0, .int .i64 0, .bool false] 28)), IB.next (hS.2.2.1) (belt (Below.refl _ (((w.alloc (.cells #[.int .i64 s0, .int .i64 s1, .int .i64 s2, .slice A n c, .int .i64 p0, .int .i64 p1, .int .i64 p2, .int .i64 p3, .int .i64 p4, .int .i64 p5, .bool p6] 28)).alloc (.cells #[.int .i64 i0, .int .i64 i1, .int .i64 i2] 23)).alloc (.cells #[.int .i64 a0, .int .i64 a1, .int .i64 a2, .int .i64 a3, .int .i64 a4, .int .i64 a5, .bool a6] 26)).drew) (.cells #[.int .i64 0, .int .i64 0, .int .i64 0, .slice none 0 0, .int .i64 0, .int .i64 0, .int .i64 0, .int .i64 0, .int .i64 0, .int .i64 0, .bool false] 28)), CB.next (hS.2.2.2) (belt (Below.refl _ (((w.alloc (.cells #[.int .i64 s0, .int .i64 s1, .int .i64 s2, .slice A n c, .int .i64 p0, .int .i64 p1, .int .i64 p2, .int .i64 p3, .int .i64 p4, .int .i64 p5, .bool p6] 28)).alloc (.cells #[.int .i64 i0, .int .i64 i1, .int .i64 i2] 23)).alloc (.cells #[.int .i64 a0, .int .i64 a1, .int .i64 a2, .int .i64 a3, .int .i64 a4, .int .i64 a5, .bool a6] 26)).drew) (.cells #[.int .i64 0, .int .i64 0, .int .i64 0, .slice none 0 0, .int .i64 0, .int .i64 0, .int .i64 0, .int .i64 0, .int .i64 0, .int .i64 0, .bool false] 28))⟩
    have hzq : NB ((((w.alloc (.cells #[.int .i64 s0, .int .i64 s1, .int .i64 s2, .slice A n c, .int .i64 p0, .int .i64 p1, .int .i64 p2, .int .i64 p3, .int .i64 p4, .int .i64 p5, .bool p6] 28)).alloc (.cells #[.int .i64 i0, .int .i64 i1, .int .i64 i2] 23)).alloc (.cells #[.int .i64 a0, .int .i64 a1, .int .i64 a2, .int .i64 a3, .int .i64 a4, .int .i64 a5, .bool a6] 26)).drew.alloc (.cells #[.int .i64 0, .int .i64 0, .int .i64 0, .slice none 0 0, .int .i64 0, .int .i64 0, .int .i64 0, .int .i64 0, .int .i64 0, .int .i64 0, .bool false] 28)) (w.heap.size + 1 + 1 + 1) ⟨0, 0, 0⟩ none 0 0 ⟨0, 0, 0, 0, 0, 0, false⟩ := by
      have h := NB.new (((w.alloc (.cells #[.int .i64 s0, .int .i64 s1, .int .i64 s2, .slice A n c, .int .i64 p0, .int .i64 p1, .int .i64 p2, .int .i64 p3, .int .i64 p4, .int .i64 p5, .bool p6] 28)).alloc (.cells #[.int .i64 i0, .int .i64 i1, .int .i64 i2] 23)).alloc (.cells #[.int .i64 a0, .int .i64 a1, .int .i64 a2, .int .i64 a3, .int .i64 a4, .int .i64 a5, .bool a6] 26)).drew ⟨0, 0, 0⟩ none 0 0 ⟨0, 0, 0, 0, 0, 0, false⟩
      simpa [World.drew] using h
    have hNw : w.heap.size + 1 + 1 < w.heap.size + 1 + 1 + 1 := by omega
    go_simp
    refine hK _ _ hSq ?_
    clear hK K
    try simp only [Act.put, List.setIfInBounds_toArray, List.set_cons_zero, List.set_cons_succ]
    have hS := hSq
    refine wpGT_call (by simp only [List.getElem?_toArray, List.getElem?_cons_succ, List.getElem?_cons_zero]; rfl) (by rfl) fun K hK => ?_
    go_simp
    go_fit (HCP.out _ hS.1)
    rintro e wn5 ⟨A5, c5, rfl, hc5, hr5, hbn⟩
    have hS : Below w.heap.size w wn5 ∧ NB wn5 w.heap.size ⟨s0, s1, s2⟩ A n c ⟨p0, p1, p2, p3, p4, p5, p6⟩ ∧ IB wn5 (w.heap.size + 1) ⟨i0, i1, i2⟩ ∧ CB wn5 (w.heap.size + 1 + 1) ⟨a0, a1, a2, a3, a4, a5, a6⟩ := ⟨beln (hS.1) hbn, NB.next (hS.2.1) hbn, IB.next (hS.2.2.1) hbn, CB.next (hS.2.2.2) hbn⟩
    have hzq := hzq.next hbn
    have hNb := hzq.lt
    go_simp
    refine hK _ _ hS ?_
    clear hK K
    try simp only [Act.put, List.setIfInBounds_toArray, List.set_cons_zero, List.set_cons_succ]
    refine wpGT_call (by simp only [List.getElem?_toArray, List.getElem?_cons_succ, List.getElem?_cons_zero]; rfl) (by rfl) fun K hK => ?_
    go_simp
    go_fit (HCH.out A5 c5 _ hr5 hc5)
    rintro e wn ⟨A6, c6, rfl, hc6, ho6, hbn⟩
    have hS : Below w.heap.size w wn ∧ NB wn w.heap.size ⟨s0, s1, s2⟩ A n c ⟨p0, p1, p2, p3, p4, p5, p6⟩ ∧ IB wn (w.heap.size + 1) ⟨i0, i1, i2⟩ ∧ CB wn (w.heap.size + 1 + 1) ⟨a0, a1, a2, a3, a4, a5, a6⟩ := ⟨beln (hS.1) hbn, NB.next (hS.2.1) hbn, IB.next (hS.2.2.1) hbn, CB.next (hS.2.2.2) hbn⟩
    have hz := hzq.next hbn
    go_simp
    refine hK _ _ hS ?_
    clear hK K
    try simp only [Act.put, List.setIfInBounds_toArray, List.set_cons_zero, List.set_cons_succ]
    iterate 3
      (first
        | (refine wpGT_float (v := ?_) (by simp only [List.getElem?_toArray, List.getElem?_cons_succ, List.getElem?_cons_zero]; rfl) (by rfl) ?_ ?_
           rotate_left
           · (intro W hW; obtain ⟨c0, c1, c2, c3, c4, c5, c6, c7, c8, c9, c10⟩ := NB.cells (hW.2.1); obtain ⟨j0, j1, j2⟩ := IB.cells (hW.2.2.1); obtain ⟨k0, k1, k2, k3, k4, k5, k6⟩ := CB.cells (hW.2.2.2); (try simp only at *); go_simp; try with_reducible rfl)
           simp only [Act.put, List.setIfInBounds_toArray, List.set_cons_zero, List.set_cons_succ])
        | (refine wpGT_skip (by simp only [List.getElem?_toArray, List.getElem?_cons_succ, List.getElem?_cons_zero]; rfl) (by rfl) ?_
           simp only [Act.put, List.setIfInBounds_toArray, List.set_cons_zero, List.set_cons_succ]))
    refine wpGT_call (by simp only [List.getElem?_toArray, List.getElem?_cons_succ, List.getElem?_cons_zero]; rfl) (by rfl) fun K hK => ?_
    obtain ⟨z0, z1, z2, z3, z4, z5, z6, z7, z8, z9, z10⟩ := hz.cells
    have zf := hz.frz
    have zl := hz.lt
    try simp only at z0 z1 z2 z3 z4 z5 z6 z7 z8 z9 z10
    go_simp
    have hS9 : Below w.heap.size w (((((((((((wn.setCell ⟨(w.heap.size + 1 + 1 + 1), 0, none⟩ (.int .i64 y0)).setCell ⟨(w.heap.size + 1 + 1 + 1), 1, none⟩ (.int .i64 y1)).setCell ⟨(w.heap.size + 1 + 1 + 1), 2, none⟩ (.int .i64 y2)).setCell ⟨(w.heap.size + 1 + 1 + 1), 3, none⟩ (.slice A6 m c6)).setCell ⟨(w.heap.size + 1 + 1 + 1), 4, none⟩ (.int .i64 b0)).setCell ⟨(w.heap.size + 1 + 1 + 1), 5, none⟩ (.int .i64 b1)).setCell ⟨(w.heap.size + 1 + 1 + 1), 6, none⟩ (.int .i64 b2)).setCell ⟨(w.heap.size + 1 + 1 + 1), 7, none⟩ (.int .i64 b3)).setCell ⟨(w.heap.size + 1 + 1 + 1), 8, none⟩ (.int .i64 b4)).setCell ⟨(w.heap.size + 1 + 1 + 1), 9, none⟩ (.int .i64 b5)).setCell ⟨(w.heap.size + 1 + 1 + 1), 10, none⟩ (.bool b6)) ∧ NB (((((((((((wn.setCell ⟨(w.heap.size + 1 + 1 + 1), 0, none⟩ (.int .i64 y0)).setCell ⟨(w.heap.size + 1 + 1 + 1), 1, none⟩ (.int .i64 y1)).setCell ⟨(w.heap.size + 1 + 1 + 1), 2, none⟩ (.int .i64 y2)).setCell ⟨(w.heap.size + 1 + 1 + 1), 3, none⟩ (.slice A6 m c6)).setCell ⟨(w.heap.size + 1 + 1 + 1), 4, none⟩ (.int .i64 b0)).setCell ⟨(w.heap.size + 1 + 1 + 1), 5, none⟩ (.int .i64 b1)).setCell ⟨(w.heap.size + 1 + 1 + 1), 6, none⟩ (.int .i64 b2)).setCell ⟨(w.heap.size + 1 + 1 + 1), 7, none⟩ (.int .i64 b3)).setCell ⟨(w.heap.size + 1 + 1 + 1), 8, none⟩ (.int .i64 b4)).setCell ⟨(w.heap.size + 1 + 1 + 1), 9, none⟩ (.int .i64 b5)).setCell ⟨(w.heap.size + 1 + 1 + 1), 10, none⟩ (.bool b6)) w.heap.size ⟨s0, s1, s2⟩ A n c ⟨p0, p1, p2, p3, p4, p5, p6⟩ ∧ IB (((((((((((wn.setCell ⟨(w.heap.size + 1 + 1 + 1), 0, none⟩ (.int .i64 y0)).setCell ⟨(w.heap.size + 1 + 1 + 1), 1, none⟩ (.int .i64 y1)).setCell ⟨(w.heap.size + 1 + 1 + 1), 2, none⟩ (.int .i64 y2)).setCell ⟨(w.heap.size + 1 + 1 + 1), 3, none⟩ (.slice A6 m c6)).setCell ⟨(w.heap.size + 1 + 1 + 1), 4, none⟩ (.int .i64 b0)).setCell ⟨(w.heap.size + 1 + 1 + 1), 5, none⟩ (.int .i64 b1)).setCell ⟨(w.heap.size + 1 + 1 + 1), 6, none⟩ (.int .i64 b2)).setCell ⟨(w.heap.size + 1 + 1 + 1), 7, none⟩ (.int .i64 b3)).setCell ⟨(w.heap.size + 1 + 1 + 1), 8, none⟩ (.int .i64 b4)).setCell ⟨(w.heap.size + 1 + 1 + 1), 9, none⟩ (.int .i64 b5)).setCell ⟨(w.heap.size + 1 + 1 + 1), 10, none⟩ (.bool b6)) (w.heap.size + 1) ⟨i0, i1, i2⟩ ∧ CB (((((((((((wn.setCell ⟨(w.heap.size + 1 + 1 + 1), 0, none⟩ (.int .i64 y0)).setCell ⟨(w.heap.size + 1 + 1 + 1), 1, none⟩ (.int .i64 y1)).setCell ⟨(w.heap.size + 1 + 1 + 1), 2, none⟩ (.int .i64 y2)).setCell ⟨(w.heap.size + 1 + 1 + 1), 3, none⟩ (.slice A6 m c6)).setCell ⟨(w.heap.size + 1 + 1 + 1), 4, none⟩ (.int .i64 b0)).setCell ⟨(w.heap.size + 1 + 1 + 1), 5, none⟩ (.int .i64 b1)).setCell ⟨(w.heap.size + 1 + 1 + 1), 6, none⟩ (.int .i64 b2)).setCell ⟨(w.heap.size + 1 + 1 + 1), 7, none⟩ (.int .i64 b3)).setCell ⟨(w.heap.size + 1 + 1 + 1), 8, none⟩ (.int .i64 b4)).setCell ⟨(w.heap.size + 1 + 1 + 1), 9, none⟩ (.int .i64 b5)).setCell ⟨(w.heap.size + 1 + 1 + 1), 10, none⟩ (.bool b6)) (w.heap.size + 1 + 1) ⟨a0, a1, a2, a3, a4, a5, a6⟩ := by
      repeat (refine HSS.out _ (w.heap.size + 1 + 1 + 1) _ _ hNw ?_)
      exact hS
    have hN9 := hz.store ⟨y0, y1, y2⟩ A6 m c6 ⟨b0, b1, b2, b3, b4, b5, b6⟩
    have hr9 : PRow (((((((((((wn.setCell ⟨(w.heap.size + 1 + 1 + 1), 0, none⟩ (.int .i64 y0)).setCell ⟨(w.heap.size + 1 + 1 + 1), 1, none⟩ (.int .i64 y1)).setCell ⟨(w.heap.size + 1 + 1 + 1), 2, none⟩ (.int .i64 y2)).setCell ⟨(w.heap.size + 1 + 1 + 1), 3, none⟩ (.slice A6 m c6)).setCell ⟨(w.heap.size + 1 + 1 + 1), 4, none⟩ (.int .i64 b0)).setCell ⟨(w.heap.size + 1 + 1 + 1), 5, none⟩ (.int .i64 b1)).setCell ⟨(w.heap.size + 1 + 1 + 1), 6, none⟩ (.int .i64 b2)).setCell ⟨(w.heap.size + 1 + 1 + 1), 7, none⟩ (.int .i64 b3)).setCell ⟨(w.heap.size + 1 + 1 + 1), 8, none⟩ (.int .i64 b4)).setCell ⟨(w.heap.size + 1 + 1 + 1), 9, none⟩ (.int .i64 b5)).setCell ⟨(w.heap.size + 1 + 1 + 1), 10, none⟩ (.bool b6)) (((((((((((wn.setCell ⟨(w.heap.size + 1 + 1 + 1), 0, none⟩ (.int .i64 y0)).setCell ⟨(w.heap.size + 1 + 1 + 1), 1, none⟩ (.int .i64 y1)).setCell ⟨(w.heap.size + 1 + 1 + 1), 2, none⟩ (.int .i64 y2)).setCell ⟨(w.heap.size + 1 + 1 + 1), 3, none⟩ (.slice A6 m c6)).setCell ⟨(w.heap.size + 1 + 1 + 1), 4, none⟩ (.int .i64 b0)).setCell ⟨(w.heap.size + 1 + 1 + 1), 5, none⟩ (.int .i64 b1)).setCell ⟨(w.heap.size + 1 + 1 + 1), 6, none⟩ (.int .i64 b2)).setCell ⟨(w.heap.size + 1 + 1 + 1), 7, none⟩ (.int .i64 b3)).setCell ⟨(w.heap.size + 1 + 1 + 1), 8, none⟩ (.int .i64 b4)).setCell ⟨(w.heap.size + 1 + 1 + 1), 9, none⟩ (.int .i64 b5)).setCell ⟨(w.heap.size + 1 + 1 + 1), 10, none⟩ (.bool b6)).heap.size A6 yp := by
      refine (OwnG.rowAt (T := 23) (base := wn5.heap.size) (n := m) (c := c6) GId.len ?_).2
      repeat (refine OwnG.setOther ?_ hNb _ _)
      exact ho6
    refine hK _ _ hS9 ?_
    clear hK K
    try simp only [Act.put, List.setIfInBounds_toArray, List.set_cons_zero, List.set_cons_succ]
    iterate 1
      (first
        | (refine wpGT_float (v := ?_) (by simp only [List.getElem?_toArray, List.getElem?_cons_succ, List.getElem?_cons_zero]; rfl) (by rfl) ?_ ?_
           rotate_left
           · (intro W hW; obtain ⟨c0, c1, c2, c3, c4, c5, c6, c7, c8, c9, c10⟩ := NB.cells (hW.2.1); obtain ⟨j0, j1, j2⟩ := IB.cells (hW.2.2.1); obtain ⟨k0, k1, k2, k3, k4, k5, k6⟩ := CB.cells (hW.2.2.2); (try simp only at *); go_simp; try with_reducible rfl)
           simp only [Act.put, List.setIfInBounds_toArray, List.set_cons_zero, List.set_cons_succ])
        | (refine wpGT_skip (by simp only [List.getElem?_toArray, List.getElem?_cons_succ, List.getElem?_cons_zero]; rfl) (by rfl) ?_
           simp only [Act.put, List.setIfInBounds_toArray, List.set_cons_zero, List.set_cons_succ]))
    clear z0 z1 z2 z3 z4 z5 z6 z7 z8 z9 z10 zf zl hz
    refine wpGT_nil ?_
    have HS9 := Lib.hid hS9
    have HN9 := Lib.hid hN9
    have HR9 := Lib.hid hr9
    clear hS9 hN9 hr9 hS
    obtain ⟨d0, d1, d2, d3, d4, d5, d6, d7, d8, d9, d10⟩ := HS9.out.2.1.cells
    obtain ⟨j0, j1, j2⟩ := HS9.out.2.2.1.cells
    obtain ⟨k0, k1, k2, k3, k4, k5, k6⟩ := HS9.out.2.2.2.cells
    try simp only at d0 d1 d2 d3 d4 d5 d6 d7 d8 d9 d10 j0 j1 j2 k0 k1 k2 k3 k4 k5 k6
    go_wp2_with fail
    go_fit (HRC.out _ HS9.out.1)
    rintro e w10 ⟨A10, c10, rfl, hc10, ho10, hb10⟩
    have hbq := belt (Below.refl _ w10) (.cells #[.int .i64 y0, .int .i64 y1, .int .i64 y2, .slice A10 m c10, .int .i64 b0, .int .i64 b1, .int .i64 b2, .int .i64 b3, .int .i64 b4, .int .i64 b5, .bool b6] 28)
    have HB10 := Lib.hid (beln (beln HS9.out.1 hb10) hbq)
    have HN10 := Lib.hid ((HN9.out.next hb10).next hbq)
    have HR10 := Lib.hid ((HR9.out.next hb10).next hbq)
    have HNY : Hid (NB (w10.alloc (.cells #[.int .i64 y0, .int .i64 y1, .int .i64 y2, .slice A10 m c10, .int .i64 b0, .int .i64 b1, .int .i64 b2, .int .i64 b3, .int .i64 b4, .int .i64 b5, .bool b6] 28)) w10.heap.size ⟨y0, y1, y2⟩ A10 m c10 ⟨b0, b1, b2, b3, b4, b5, b6⟩) := Lib.hid (NB.new w10 ⟨y0, y1, y2⟩ A10 m c10 ⟨b0, b1, b2, b3, b4, b5, b6⟩)
    have HRY := Lib.hid ((ho10.rowAt GId.len).2.next hbq)
    clear hbq hb10 ho10 HS9 HN9 HR9 d0 d1 d2 d3 d4 d5 d6 d7 d8 d9 d10 j0 j1 j2 k0 k1 k2 k3 k4 k5 k6
    obtain ⟨d0, d1, d2, d3, d4, d5, d6, d7, d8, d9, d10⟩ := HN10.out.cells
    obtain ⟨f0, f1, f2, f3, f4, f5, f6, f7, f8, f9, f10⟩ := HNY.out.cells
    try simp only at d0 d1 d2 d3 d4 d5 d6 d7 d8 d9 d10 f0 f1 f2 f3 f4 f5 f6 f7 f8 f9 f10
    go_wp2_with fail
    go_fit (HSA.out _ _ _ _ _ HR10.out HRY.out HYL.out HYL.out)
    rintro e w11 ⟨rfl, hb11⟩
    have HB11 := Lib.hid (beln HB10.out hb11)
    clear hb11 d0 d1 d2 d3 d4 d5 d6 d7 d8 d9 d10 f0 f1 f2 f3 f4 f5 f6 f7 f8 f9 f10
    go_wp2_with fail
    go_fit (HAW.out _)
    rintro e w12 ⟨rfl, hb12⟩
    have HB12 := Lib.hid (beln HB11.out hb12)
    clear hb12
    go_wp2
    go_ret
    exact ⟨rfl, HB12.out⟩
end Go.Proofs.Ytnoegjfokceghaa
