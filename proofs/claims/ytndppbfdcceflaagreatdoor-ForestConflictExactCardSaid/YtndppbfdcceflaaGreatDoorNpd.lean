/-
  The program's validPath and Valid.
  Conditions: none.
-/
import Derived.Test.YtndppbfdcceflaaGreatDoorNpc
import Derived.Test.YtndppbfdcceflaaGreatDoorMca
namespace Go.Proofs.YtndppbfdcceflaaGreatDoor

open Go.RowKit

theorem IB.store {W : World} {N : Nat} {x : GId} (h : IB W N x) (y : GId) : IB (((W.setCell ⟨N, 0, none⟩ (.int .i64 y.core)).setCell ⟨N, 1, none⟩ (.int .i64 y.op)).setCell ⟨N, 2, none⟩ (.int .i64 y.part)) N y := by
  unfold IB at *
  simp [World.setCell, Array.getElem?_modify, h]
def vPath (i : GId) (xs : List GId) : Bool := decide (xs.length ≤ 8) && !hasI xs i && vP xs
theorem vPath_iff {i : GId} {xs : List GId} (h8 : xs.length ≤ 8) : vPath i xs = true ↔ ∀ k (hk : k < xs.length), vI xs[k] = true ∧ eqI xs[k] i = false ∧ hasI (xs.take k) xs[k] = false := by
  unfold vPath
  simp only [Bool.and_eq_true, decide_eq_true_eq, h8, true_and, Bool.not_eq_true', hasI, decide_eq_false_iff_not]
  rw [vP_iff]
  constructor
  · intro ⟨h1, h2⟩ k hk
    refine ⟨(h2 k hk).1, ?_, by simpa [hasI] using (h2 k hk).2⟩
    rw [← Bool.not_eq_true, eqI_iff]
    intro e
    exact h1 (e ▸ List.getElem_mem hk)
  · intro h
    refine ⟨fun hm => ?_, fun k hk => ⟨(h k hk).1, by simpa [hasI] using (h k hk).2.2⟩⟩
    obtain ⟨k, hk, e⟩ := List.getElem_of_mem hm
    have := (h k hk).2.1
    rw [(eqI_iff _ _).2 e] at this
    cases this
theorem vN_path (x : GN) : vN x = (vI x.id && vC x.cap && vPath x.id x.path) := by
  unfold vN vPath
  simp only [Bool.and_assoc]
set_option maxRecDepth 20000 in
set_option maxHeartbeats 2000000 in
theorem pVPa_any (x : GN) (A : Option Addr) (c : Nat) (w : World) (h1 : PRow w w.heap.size A x.path) (hl : x.path.length ≤ 17179869184) (hc : x.path.length ≤ c) :
    Calls Tryz.prog 119 #[x.val A c] w fun e w' => e = .returned (.bool (vPath x.id x.path)) ∧ Below w.heap.size w w' := by
  have HROW := Lib.hid fun W (hW : Below w.heap.size w W) => h1.next hW
  have HN0 := Lib.hid (NB.new w x.id A x.path.length c x.cap)
  have HPI := Lib.hid fun h8 => vPath_iff (i := x.id) (xs := x.path) h8
  have HP8 : Hid (8 < x.path.length → vPath x.id x.path = false) := Lib.hid fun h => by unfold vPath; rw [decide_eq_false (by omega)]; rfl
  have HEQ0 := Lib.hid fun (y : GId) W => id_eql y x.id W
  generalize vPath x.id x.path = q at *
  unfold GN.val
  generalize hid : x.id = xi at *
  generalize hcp : x.cap = xc at *
  obtain ⟨i0, i1, i2⟩ := xi
  obtain ⟨a0, a1, a2, a3, a4, a5, a6⟩ := xc
  generalize x.path = xs at *
  clear h1 hid hcp
  simp only [GId.val] at *
  have HB0 := Lib.hid (belt (Below.refl _ w) (.cells #[.int .i64 i0, .int .i64 i1, .int .i64 i2, .slice A xs.length c, .int .i64 a0, .int .i64 a1, .int .i64 a2, .int .i64 a3, .int .i64 a4, .int .i64 a5, .bool a6] 30))
  generalize hNN : w.heap.size = N at *
  go_enter Tryz.func119, Tryz.ntmps119
  by_cases h8 : 8 < xs.length
  · have f8 : decide ((8 : Int) < (xs.length : Int)) = true := by simp; omega
    have HF := Lib.hid (HP8.out h8)
    clear h8 HP8
    go_wp2
    go_ret
    exact ⟨congrArg (fun b => Ending.returned (Value.bool b)) HF.out.symm, by first | exact HB0.out | (rw [hNN]; exact HB0.out)⟩
  have f8 : decide ((8 : Int) < (xs.length : Int)) = false := by simp; omega
  have HPX := Lib.hid (HPI.out (by omega))
  clear h8 HPI HP8
  go_wp2
  clear f8
  try rw [hNN]
  generalize w.alloc (.cells #[.int .i64 i0, .int .i64 i1, .int .i64 i2, .slice A xs.length c, .int .i64 a0, .int .i64 a1, .int .i64 a2, .int .i64 a3, .int .i64 a4, .int .i64 a5, .bool a6] 30) = w3 at *
  go_loopw [12] (fun vi wr => ∃ k : Nat, vi = .int .i64 k ∧ k ≤ xs.length ∧ Hid (∀ j (hj : j < xs.length), j < k → vI xs[j] = true ∧ eqI xs[j] ⟨i0, i1, i2⟩ = false ∧ hasI (xs.take j) xs[j] = false) ∧ Hid (Below w3.heap.size w3 wr)) (fun vi _ => xs.length - (intOf vi).toNat)
  case atStart => exact ⟨0, rfl, Nat.zero_le _, Lib.hid fun j _ hj => absurd hj (by omega), Lib.hid (Below.refl _ _)⟩
  case round =>
    obtain ⟨k, rfl, hk, HT, HB⟩ := hrel
    generalize wr = wy at *
    rcases Nat.lt_or_ge k xs.length with hlt | hge
    · have HW9 : Hid (Below N w wy) := Lib.hid (by have h := HB0.out; have h2 := HB.out; rw [← hNN] at h ⊢; exact beln h h2)
      have HW9' : Hid (Below w.heap.size w wy) := Lib.hid (by rw [hNN]; exact HW9.out)
      obtain ⟨b1, o1, rfl, hbz, x0, x1, x2⟩ := (HROW.out _ HW9.out).gid hlt
      have HTK := Lib.hid fun W => run_take W (some ⟨b1, o1, none⟩) xs.length c k (by omega)
      have HI1 := Lib.hid (IB.new wy xs[k])
      have HI2 := Lib.hid (belt (Below.refl _ wy) (.cells #[.int .i64 xs[k].core, .int .i64 xs[k].op, .int .i64 xs[k].part] 25))
      have HHS := Lib.hid fun W (hW : Below wy.heap.size wy W) => by
        have h := pCts_any (xs.take k) (some ⟨b1, o1, none⟩) c xs[k] W (((HROW.out _ HW9.out).next hW).take k) (by rw [List.length_take]; omega)
        rw [show (xs.take k).length = k by rw [List.length_take]; omega] at h
        exact h
      have HVI := Lib.hid fun W => pVId_any xs[k] W
      have HEQ := Lib.hid fun W => HEQ0.out xs[k] W
      have HXI : Hid (q = true → vI xs[k] = true ∧ eqI xs[k] ⟨i0, i1, i2⟩ = false ∧ hasI (xs.take k) xs[k] = false) := Lib.hid fun h => HPX.out.1 h k hlt
      have HTN : Hid (vI xs[k] = true → eqI xs[k] ⟨i0, i1, i2⟩ = false → hasI (xs.take k) xs[k] = false → ∀ j (hj : j < xs.length), j < k + 1 → vI xs[j] = true ∧ eqI xs[j] ⟨i0, i1, i2⟩ = false ∧ hasI (xs.take j) xs[j] = false) := Lib.hid fun u1 u2 u3 j hj hjk => by
        rcases Nat.lt_or_ge j k with h | h
        · exact HT.out j hj h
        · obtain rfl : j = k := by omega
          exact ⟨u1, u2, u3⟩
      clear HT
      generalize hasI (xs.take k) xs[k] = hsk at *
      generalize vI xs[k] = vik at *
      generalize eqI xs[k] ⟨i0, i1, i2⟩ = eik at *
      generalize xs[k] = y at *
      obtain ⟨yc, yo, yp⟩ := y
      simp only [GId.val] at HHS HVI HEQ HI1 HI2 x0 x1 x2
      have hkl : decide ((k : Int) < (xs.length : Int)) = true := by simp; omega
      have HM : Hid (xs.length - (k + 1) < xs.length - k) := Lib.hid (by omega)
      go_upto_region 6 with fail
      generalize wy.alloc (.cells #[.int .i64 yc, .int .i64 yo, .int .i64 yp] 25) = wz at *
      generalize hM : wy.heap.size = M at *
      have hMz := HI1.out.lt
      clear x0 x1 x2 hkl
      obtain ⟨x0, x1, x2⟩ := HI1.out.cells
      have HN5 : Hid (NB wz N ⟨i0, i1, i2⟩ (some ⟨b1, o1, none⟩) xs.length c ⟨a0, a1, a2, a3, a4, a5, a6⟩) := Lib.hid (by
        have h := HN0.out.next HB.out
        have h2 := HI2.out
        rw [← hM] at h2
        exact h.next h2)
      obtain ⟨d0, d1, d2, d3, d4, d5, d6, d7, d8, d9, d10⟩ := HN5.out.cells
      have hNz := HN5.out.lt
      (try simp only at d0 d1 d2 d3 x0 x1 x2)
      clear d4 d5 d6 d7 d8 d9 d10
      have HEN : Hid (∀ W, Below wz.heap.size wz W → Below w.heap.size w W) := Lib.hid fun W hW => by
        have h2 := HI2.out
        rw [← hM] at h2
        exact beln (beln HW9'.out h2) hW
      have HEN3 : Hid (∀ W, Below wz.heap.size wz W → Below w3.heap.size w3 W) := Lib.hid fun W hW => by
        have h2 := HI2.out
        rw [← hM] at h2
        exact beln (beln HB.out h2) hW
      have HHS := Lib.hid fun W (hW : Below wz.heap.size wz W) => HHS.out W (by
        have h2 := HI2.out
        rw [← hM] at h2 ⊢
        exact beln h2 hW)
      have hS := (Below.refl wz.heap.size wz).drew
      rcases vik with _ | _
      · have HF : Hid (q = false) := Lib.hid (by cases q with | false => rfl | true => exact absurd (HXI.out rfl).1 (by decide))
        refine wp_region_growS (S := fun W => Below wz.heap.size wz W) [(0, true), (1, false), (2, true), (3, true), (4, true), (5, true), (6, true), (7, true), (8, true), (9, true), (10, true), (11, true), (12, true), (13, true), (14, true), (15, false), (16, true)] (by kernel_rfl) (by kernel_rfl) (by kernel_rfl) (by kernel_rfl) (by intro c a d v w h; cases d <;> exact h) hS ?_
        iterate 1
          (first
            | (refine wpGrowS_float (v := ?_) (by simp only [List.getElem?_toArray, List.getElem?_cons_zero]; rfl) (by rfl) ?_ ?_
               rotate_left
               · (intro W hW; have t0 := (hW.cell (p := ⟨N, 0, none⟩) hNz).trans d0; have t1 := (hW.cell (p := ⟨N, 1, none⟩) hNz).trans d1; have t2 := (hW.cell (p := ⟨N, 2, none⟩) hNz).trans d2; have t3 := (hW.cell (p := ⟨N, 3, none⟩) hNz).trans d3; have e0 := (hW.cell (p := ⟨M, 0, none⟩) hMz).trans x0; have e1 := (hW.cell (p := ⟨M, 1, none⟩) hMz).trans x1; have e2 := (hW.cell (p := ⟨M, 2, none⟩) hMz).trans x2; have etk := fun W => HTK.out W; have heq := fun W => HEQ.out W; (try simp only at *); go_simp; try with_reducible rfl)
               simp only [Act.put, List.setIfInBounds_toArray, List.set_cons_zero, List.set_cons_succ])
            | (refine wpGrowS_skip (by simp only [List.getElem?_toArray, List.getElem?_cons_zero]; rfl) (by rfl) ?_
               simp only [Act.put, List.setIfInBounds_toArray, List.set_cons_zero, List.set_cons_succ]))
        refine wpGrowS_call (by simp only [List.getElem?_toArray, List.getElem?_cons_succ, List.getElem?_cons_zero]; rfl) (by rfl) fun K hK => ?_
        go_simp
        go_fit (HVI.out _)
        rintro e wn ⟨rfl, hbn⟩
        have hSp := hS
        have hS : Below wz.heap.size wz wn := beln hS hbn
        go_simp
        refine hK _ _ hS ?_
        clear hK K
        try simp only [Act.put, List.setIfInBounds_toArray, List.set_cons_zero, List.set_cons_succ]
        iterate 13
          (first
            | (refine wpGrowS_float (v := ?_) (by simp only [List.getElem?_toArray, List.getElem?_cons_succ, List.getElem?_cons_zero]; rfl) (by rfl) ?_ ?_
               rotate_left
               · (intro W hW; have t0 := (hW.cell (p := ⟨N, 0, none⟩) hNz).trans d0; have t1 := (hW.cell (p := ⟨N, 1, none⟩) hNz).trans d1; have t2 := (hW.cell (p := ⟨N, 2, none⟩) hNz).trans d2; have t3 := (hW.cell (p := ⟨N, 3, none⟩) hNz).trans d3; have e0 := (hW.cell (p := ⟨M, 0, none⟩) hMz).trans x0; have e1 := (hW.cell (p := ⟨M, 1, none⟩) hMz).trans x1; have e2 := (hW.cell (p := ⟨M, 2, none⟩) hMz).trans x2; have etk := fun W => HTK.out W; have heq := fun W => HEQ.out W; (try simp only at *); go_simp; try with_reducible rfl)
               simp only [Act.put, List.setIfInBounds_toArray, List.set_cons_zero, List.set_cons_succ])
            | (refine wpGrowS_skip (by simp only [List.getElem?_toArray, List.getElem?_cons_succ, List.getElem?_cons_zero]; rfl) (by rfl) ?_
               simp only [Act.put, List.setIfInBounds_toArray, List.set_cons_zero, List.set_cons_succ]))
        refine wpGrowS_pass hS (by simp only [List.getElem?_toArray, List.getElem?_cons_succ, List.getElem?_cons_zero]; rfl) (by rfl) ?_
        try simp only [Act.put, List.setIfInBounds_toArray, List.set_cons_zero, List.set_cons_succ]
        iterate 1
          (first
            | (refine wpGrowS_float (v := ?_) (by simp only [List.getElem?_toArray, List.getElem?_cons_succ, List.getElem?_cons_zero]; rfl) (by rfl) ?_ ?_
               rotate_left
               · (intro W hW; have t0 := (hW.cell (p := ⟨N, 0, none⟩) hNz).trans d0; have t1 := (hW.cell (p := ⟨N, 1, none⟩) hNz).trans d1; have t2 := (hW.cell (p := ⟨N, 2, none⟩) hNz).trans d2; have t3 := (hW.cell (p := ⟨N, 3, none⟩) hNz).trans d3; have e0 := (hW.cell (p := ⟨M, 0, none⟩) hMz).trans x0; have e1 := (hW.cell (p := ⟨M, 1, none⟩) hMz).trans x1; have e2 := (hW.cell (p := ⟨M, 2, none⟩) hMz).trans x2; have etk := fun W => HTK.out W; have heq := fun W => HEQ.out W; (try simp only at *); go_simp; try with_reducible rfl)
               simp only [Act.put, List.setIfInBounds_toArray, List.set_cons_zero, List.set_cons_succ])
            | (refine wpGrowS_skip (by simp only [List.getElem?_toArray, List.getElem?_cons_succ, List.getElem?_cons_zero]; rfl) (by rfl) ?_
               simp only [Act.put, List.setIfInBounds_toArray, List.set_cons_zero, List.set_cons_succ]))
        refine wpGrowS_nil ?_
        have HE := Lib.hid (HEN.out _ hS)
        clear hS hSp hbn x0 x1 x2 d0 d1 d2 d3
        go_wp2
        go_ret
        exact ⟨congrArg (fun b => Ending.returned (Value.bool b)) HF.out.symm, by first | exact HE.out | (rw [← hNN]; exact HE.out)⟩
      rcases eik with _ | _
      rotate_left
      · have HF : Hid (q = false) := Lib.hid (by cases q with | false => rfl | true => exact absurd (HXI.out rfl).2.1 (by decide))
        refine wp_region_growS (S := fun W => Below wz.heap.size wz W) [(0, true), (1, false), (2, true), (3, true), (4, true), (5, true), (6, true), (7, true), (8, true), (9, true), (10, true), (11, true), (12, true), (13, true), (14, true), (15, false), (16, true)] (by kernel_rfl) (by kernel_rfl) (by kernel_rfl) (by kernel_rfl) (by intro c a d v w h; cases d <;> exact h) hS ?_
        iterate 1
          (first
            | (refine wpGrowS_float (v := ?_) (by simp only [List.getElem?_toArray, List.getElem?_cons_zero]; rfl) (by rfl) ?_ ?_
               rotate_left
               · (intro W hW; have t0 := (hW.cell (p := ⟨N, 0, none⟩) hNz).trans d0; have t1 := (hW.cell (p := ⟨N, 1, none⟩) hNz).trans d1; have t2 := (hW.cell (p := ⟨N, 2, none⟩) hNz).trans d2; have t3 := (hW.cell (p := ⟨N, 3, none⟩) hNz).trans d3; have e0 := (hW.cell (p := ⟨M, 0, none⟩) hMz).trans x0; have e1 := (hW.cell (p := ⟨M, 1, none⟩) hMz).trans x1; have e2 := (hW.cell (p := ⟨M, 2, none⟩) hMz).trans x2; have etk := fun W => HTK.out W; have heq := fun W => HEQ.out W; (try simp only at *); go_simp; try with_reducible rfl)
               simp only [Act.put, List.setIfInBounds_toArray, List.set_cons_zero, List.set_cons_succ])
            | (refine wpGrowS_skip (by simp only [List.getElem?_toArray, List.getElem?_cons_zero]; rfl) (by rfl) ?_
               simp only [Act.put, List.setIfInBounds_toArray, List.set_cons_zero, List.set_cons_succ]))
        refine wpGrowS_call (by simp only [List.getElem?_toArray, List.getElem?_cons_succ, List.getElem?_cons_zero]; rfl) (by rfl) fun K hK => ?_
        go_simp
        go_fit (HVI.out _)
        rintro e wn ⟨rfl, hbn⟩
        have hSp := hS
        have hS : Below wz.heap.size wz wn := beln hS hbn
        go_simp
        refine hK _ _ hS ?_
        clear hK K
        try simp only [Act.put, List.setIfInBounds_toArray, List.set_cons_zero, List.set_cons_succ]
        iterate 13
          (first
            | (refine wpGrowS_float (v := ?_) (by simp only [List.getElem?_toArray, List.getElem?_cons_succ, List.getElem?_cons_zero]; rfl) (by rfl) ?_ ?_
               rotate_left
               · (intro W hW; have t0 := (hW.cell (p := ⟨N, 0, none⟩) hNz).trans d0; have t1 := (hW.cell (p := ⟨N, 1, none⟩) hNz).trans d1; have t2 := (hW.cell (p := ⟨N, 2, none⟩) hNz).trans d2; have t3 := (hW.cell (p := ⟨N, 3, none⟩) hNz).trans d3; have e0 := (hW.cell (p := ⟨M, 0, none⟩) hMz).trans x0; have e1 := (hW.cell (p := ⟨M, 1, none⟩) hMz).trans x1; have e2 := (hW.cell (p := ⟨M, 2, none⟩) hMz).trans x2; have etk := fun W => HTK.out W; have heq := fun W => HEQ.out W; (try simp only at *); go_simp; try with_reducible rfl)
               simp only [Act.put, List.setIfInBounds_toArray, List.set_cons_zero, List.set_cons_succ])
            | (refine wpGrowS_skip (by simp only [List.getElem?_toArray, List.getElem?_cons_succ, List.getElem?_cons_zero]; rfl) (by rfl) ?_
               simp only [Act.put, List.setIfInBounds_toArray, List.set_cons_zero, List.set_cons_succ]))
        refine wpGrowS_pass hS (by simp only [List.getElem?_toArray, List.getElem?_cons_succ, List.getElem?_cons_zero]; rfl) (by rfl) ?_
        try simp only [Act.put, List.setIfInBounds_toArray, List.set_cons_zero, List.set_cons_succ]
        iterate 1
          (first
            | (refine wpGrowS_float (v := ?_) (by simp only [List.getElem?_toArray, List.getElem?_cons_succ, List.getElem?_cons_zero]; rfl) (by rfl) ?_ ?_
               rotate_left
               · (intro W hW; have t0 := (hW.cell (p := ⟨N, 0, none⟩) hNz).trans d0; have t1 := (hW.cell (p := ⟨N, 1, none⟩) hNz).trans d1; have t2 := (hW.cell (p := ⟨N, 2, none⟩) hNz).trans d2; have t3 := (hW.cell (p := ⟨N, 3, none⟩) hNz).trans d3; have e0 := (hW.cell (p := ⟨M, 0, none⟩) hMz).trans x0; have e1 := (hW.cell (p := ⟨M, 1, none⟩) hMz).trans x1; have e2 := (hW.cell (p := ⟨M, 2, none⟩) hMz).trans x2; have etk := fun W => HTK.out W; have heq := fun W => HEQ.out W; (try simp only at *); go_simp; try with_reducible rfl)
               simp only [Act.put, List.setIfInBounds_toArray, List.set_cons_zero, List.set_cons_succ])
            | (refine wpGrowS_skip (by simp only [List.getElem?_toArray, List.getElem?_cons_succ, List.getElem?_cons_zero]; rfl) (by rfl) ?_
               simp only [Act.put, List.setIfInBounds_toArray, List.set_cons_zero, List.set_cons_succ]))
        refine wpGrowS_nil ?_
        have HE := Lib.hid (HEN.out _ hS)
        clear hS hSp hbn x0 x1 x2 d0 d1 d2 d3
        go_wp2
        go_ret
        exact ⟨congrArg (fun b => Ending.returned (Value.bool b)) HF.out.symm, by first | exact HE.out | (rw [← hNN]; exact HE.out)⟩
      rcases hsk with _ | _
      rotate_left
      · have HF : Hid (q = false) := Lib.hid (by cases q with | false => rfl | true => exact absurd (HXI.out rfl).2.2 (by decide))
        refine wp_region_growS (S := fun W => Below wz.heap.size wz W) [(0, true), (1, false), (2, true), (3, true), (4, true), (5, true), (6, true), (7, true), (8, true), (9, true), (10, true), (11, true), (12, true), (13, true), (14, true), (15, false), (16, true)] (by kernel_rfl) (by kernel_rfl) (by kernel_rfl) (by kernel_rfl) (by intro c a d v w h; cases d <;> exact h) hS ?_
        iterate 1
          (first
            | (refine wpGrowS_float (v := ?_) (by simp only [List.getElem?_toArray, List.getElem?_cons_zero]; rfl) (by rfl) ?_ ?_
               rotate_left
               · (intro W hW; have t0 := (hW.cell (p := ⟨N, 0, none⟩) hNz).trans d0; have t1 := (hW.cell (p := ⟨N, 1, none⟩) hNz).trans d1; have t2 := (hW.cell (p := ⟨N, 2, none⟩) hNz).trans d2; have t3 := (hW.cell (p := ⟨N, 3, none⟩) hNz).trans d3; have e0 := (hW.cell (p := ⟨M, 0, none⟩) hMz).trans x0; have e1 := (hW.cell (p := ⟨M, 1, none⟩) hMz).trans x1; have e2 := (hW.cell (p := ⟨M, 2, none⟩) hMz).trans x2; have etk := fun W => HTK.out W; have heq := fun W => HEQ.out W; (try simp only at *); go_simp; try with_reducible rfl)
               simp only [Act.put, List.setIfInBounds_toArray, List.set_cons_zero, List.set_cons_succ])
            | (refine wpGrowS_skip (by simp only [List.getElem?_toArray, List.getElem?_cons_zero]; rfl) (by rfl) ?_
               simp only [Act.put, List.setIfInBounds_toArray, List.set_cons_zero, List.set_cons_succ]))
        refine wpGrowS_call (by simp only [List.getElem?_toArray, List.getElem?_cons_succ, List.getElem?_cons_zero]; rfl) (by rfl) fun K hK => ?_
        go_simp
        go_fit (HVI.out _)
        rintro e wn ⟨rfl, hbn⟩
        have hSp := hS
        have hS : Below wz.heap.size wz wn := beln hS hbn
        go_simp
        refine hK _ _ hS ?_
        clear hK K
        try simp only [Act.put, List.setIfInBounds_toArray, List.set_cons_zero, List.set_cons_succ]
        iterate 13
          (first
            | (refine wpGrowS_float (v := ?_) (by simp only [List.getElem?_toArray, List.getElem?_cons_succ, List.getElem?_cons_zero]; rfl) (by rfl) ?_ ?_
               rotate_left
               · (intro W hW; have t0 := (hW.cell (p := ⟨N, 0, none⟩) hNz).trans d0; have t1 := (hW.cell (p := ⟨N, 1, none⟩) hNz).trans d1; have t2 := (hW.cell (p := ⟨N, 2, none⟩) hNz).trans d2; have t3 := (hW.cell (p := ⟨N, 3, none⟩) hNz).trans d3; have e0 := (hW.cell (p := ⟨M, 0, none⟩) hMz).trans x0; have e1 := (hW.cell (p := ⟨M, 1, none⟩) hMz).trans x1; have e2 := (hW.cell (p := ⟨M, 2, none⟩) hMz).trans x2; have etk := fun W => HTK.out W; have heq := fun W => HEQ.out W; (try simp only at *); go_simp; try with_reducible rfl)
               simp only [Act.put, List.setIfInBounds_toArray, List.set_cons_zero, List.set_cons_succ])
            | (refine wpGrowS_skip (by simp only [List.getElem?_toArray, List.getElem?_cons_succ, List.getElem?_cons_zero]; rfl) (by rfl) ?_
               simp only [Act.put, List.setIfInBounds_toArray, List.set_cons_zero, List.set_cons_succ]))
        refine wpGrowS_call (by simp only [List.getElem?_toArray, List.getElem?_cons_succ, List.getElem?_cons_zero]; rfl) (by rfl) fun K hK => ?_
        go_simp
        go_fit (HHS.out _ hS)
        rintro e wn ⟨rfl, hbn⟩
        have hSp := hS
        have hS : Below wz.heap.size wz wn := beln hS hbn
        go_simp
        refine hK _ _ hS ?_
        clear hK K
        try simp only [Act.put, List.setIfInBounds_toArray, List.set_cons_zero, List.set_cons_succ]
        iterate 1
          (first
            | (refine wpGrowS_float (v := ?_) (by simp only [List.getElem?_toArray, List.getElem?_cons_succ, List.getElem?_cons_zero]; rfl) (by rfl) ?_ ?_
               rotate_left
               · (intro W hW; have t0 := (hW.cell (p := ⟨N, 0, none⟩) hNz).trans d0; have t1 := (hW.cell (p := ⟨N, 1, none⟩) hNz).trans d1; have t2 := (hW.cell (p := ⟨N, 2, none⟩) hNz).trans d2; have t3 := (hW.cell (p := ⟨N, 3, none⟩) hNz).trans d3; have e0 := (hW.cell (p := ⟨M, 0, none⟩) hMz).trans x0; have e1 := (hW.cell (p := ⟨M, 1, none⟩) hMz).trans x1; have e2 := (hW.cell (p := ⟨M, 2, none⟩) hMz).trans x2; have etk := fun W => HTK.out W; have heq := fun W => HEQ.out W; (try simp only at *); go_simp; try with_reducible rfl)
               simp only [Act.put, List.setIfInBounds_toArray, List.set_cons_zero, List.set_cons_succ])
            | (refine wpGrowS_skip (by simp only [List.getElem?_toArray, List.getElem?_cons_succ, List.getElem?_cons_zero]; rfl) (by rfl) ?_
               simp only [Act.put, List.setIfInBounds_toArray, List.set_cons_zero, List.set_cons_succ]))
        refine wpGrowS_nil ?_
        have HE := Lib.hid (HEN.out _ hS)
        clear hS hSp hbn x0 x1 x2 d0 d1 d2 d3
        go_wp2
        go_ret
        exact ⟨congrArg (fun b => Ending.returned (Value.bool b)) HF.out.symm, by first | exact HE.out | (rw [← hNN]; exact HE.out)⟩
      · have HT2 := Lib.hid (HTN.out rfl rfl rfl)
        refine wp_region_growS (S := fun W => Below wz.heap.size wz W) [(0, true), (1, false), (2, true), (3, true), (4, true), (5, true), (6, true), (7, true), (8, true), (9, true), (10, true), (11, true), (12, true), (13, true), (14, true), (15, false), (16, true)] (by kernel_rfl) (by kernel_rfl) (by kernel_rfl) (by kernel_rfl) (by intro c a d v w h; cases d <;> exact h) hS ?_
        iterate 1
          (first
            | (refine wpGrowS_float (v := ?_) (by simp only [List.getElem?_toArray, List.getElem?_cons_zero]; rfl) (by rfl) ?_ ?_
               rotate_left
               · (intro W hW; have t0 := (hW.cell (p := ⟨N, 0, none⟩) hNz).trans d0; have t1 := (hW.cell (p := ⟨N, 1, none⟩) hNz).trans d1; have t2 := (hW.cell (p := ⟨N, 2, none⟩) hNz).trans d2; have t3 := (hW.cell (p := ⟨N, 3, none⟩) hNz).trans d3; have e0 := (hW.cell (p := ⟨M, 0, none⟩) hMz).trans x0; have e1 := (hW.cell (p := ⟨M, 1, none⟩) hMz).trans x1; have e2 := (hW.cell (p := ⟨M, 2, none⟩) hMz).trans x2; have etk := fun W => HTK.out W; have heq := fun W => HEQ.out W; (try simp only at *); go_simp; try with_reducible rfl)
               simp only [Act.put, List.setIfInBounds_toArray, List.set_cons_zero, List.set_cons_succ])
            | (refine wpGrowS_skip (by simp only [List.getElem?_toArray, List.getElem?_cons_zero]; rfl) (by rfl) ?_
               simp only [Act.put, List.setIfInBounds_toArray, List.set_cons_zero, List.set_cons_succ]))
        refine wpGrowS_call (by simp only [List.getElem?_toArray, List.getElem?_cons_succ, List.getElem?_cons_zero]; rfl) (by rfl) fun K hK => ?_
        go_simp
        go_fit (HVI.out _)
        rintro e wn ⟨rfl, hbn⟩
        have hSp := hS
        have hS : Below wz.heap.size wz wn := beln hS hbn
        go_simp
        refine hK _ _ hS ?_
        clear hK K
        try simp only [Act.put, List.setIfInBounds_toArray, List.set_cons_zero, List.set_cons_succ]
        iterate 13
          (first
            | (refine wpGrowS_float (v := ?_) (by simp only [List.getElem?_toArray, List.getElem?_cons_succ, List.getElem?_cons_zero]; rfl) (by rfl) ?_ ?_
               rotate_left
               · (intro W hW; have t0 := (hW.cell (p := ⟨N, 0, none⟩) hNz).trans d0; have t1 := (hW.cell (p := ⟨N, 1, none⟩) hNz).trans d1; have t2 := (hW.cell (p := ⟨N, 2, none⟩) hNz).trans d2; have t3 := (hW.cell (p := ⟨N, 3, none⟩) hNz).trans d3; have e0 := (hW.cell (p := ⟨M, 0, none⟩) hMz).trans x0; have e1 := (hW.cell (p := ⟨M, 1, none⟩) hMz).trans x1; have e2 := (hW.cell (p := ⟨M, 2, none⟩) hMz).trans x2; have etk := fun W => HTK.out W; have heq := fun W => HEQ.out W; (try simp only at *); go_simp; try with_reducible rfl)
               simp only [Act.put, List.setIfInBounds_toArray, List.set_cons_zero, List.set_cons_succ])
            | (refine wpGrowS_skip (by simp only [List.getElem?_toArray, List.getElem?_cons_succ, List.getElem?_cons_zero]; rfl) (by rfl) ?_
               simp only [Act.put, List.setIfInBounds_toArray, List.set_cons_zero, List.set_cons_succ]))
        refine wpGrowS_call (by simp only [List.getElem?_toArray, List.getElem?_cons_succ, List.getElem?_cons_zero]; rfl) (by rfl) fun K hK => ?_
        go_simp
        go_fit (HHS.out _ hS)
        rintro e wn ⟨rfl, hbn⟩
        have hSp := hS
        have hS : Below wz.heap.size wz wn := beln hS hbn
        go_simp
        refine hK _ _ hS ?_
        clear hK K
        try simp only [Act.put, List.setIfInBounds_toArray, List.set_cons_zero, List.set_cons_succ]
        iterate 1
          (first
            | (refine wpGrowS_float (v := ?_) (by simp only [List.getElem?_toArray, List.getElem?_cons_succ, List.getElem?_cons_zero]; rfl) (by rfl) ?_ ?_
               rotate_left
               · (intro W hW; have t0 := (hW.cell (p := ⟨N, 0, none⟩) hNz).trans d0; have t1 := (hW.cell (p := ⟨N, 1, none⟩) hNz).trans d1; have t2 := (hW.cell (p := ⟨N, 2, none⟩) hNz).trans d2; have t3 := (hW.cell (p := ⟨N, 3, none⟩) hNz).trans d3; have e0 := (hW.cell (p := ⟨M, 0, none⟩) hMz).trans x0; have e1 := (hW.cell (p := ⟨M, 1, none⟩) hMz).trans x1; have e2 := (hW.cell (p := ⟨M, 2, none⟩) hMz).trans x2; have etk := fun W => HTK.out W; have heq := fun W => HEQ.out W; (try simp only at *); go_simp; try with_reducible rfl)
               simp only [Act.put, List.setIfInBounds_toArray, List.set_cons_zero, List.set_cons_succ])
            | (refine wpGrowS_skip (by simp only [List.getElem?_toArray, List.getElem?_cons_succ, List.getElem?_cons_zero]; rfl) (by rfl) ?_
               simp only [Act.put, List.setIfInBounds_toArray, List.set_cons_zero, List.set_cons_succ]))
        refine wpGrowS_nil ?_
        have HE := Lib.hid (HEN3.out _ hS)
        clear hS hSp hbn x0 x1 x2 d0 d1 d2 d3
        go_wp2
        go_roundw
        case rel => exact ⟨k + 1, by go_num, by omega, HT2, HE⟩
        case measure => simp [intOf]; have := HM.out; omega
    · obtain rfl : k = xs.length := by omega
      have HF : Hid (q = true) := Lib.hid (HPX.out.2 fun j hj => HT.out j hj hj)
      have HE : Hid (Below w.heap.size w wy) := Lib.hid (by have h := HB0.out; have h2 := HB.out; rw [← hNN] at h; exact beln h h2)
      clear HT
      go_wp2
      go_ret
      exact ⟨congrArg (fun b => Ending.returned (Value.bool b)) HF.out.symm, by first | exact HE.out | (rw [← hNN]; exact HE.out)⟩
set_option maxRecDepth 20000 in
set_option maxHeartbeats 1000000 in
theorem pVN_any (x : GN) (A : Option Addr) (c : Nat) (w : World) (h1 : PRow w w.heap.size A x.path) (hl : x.path.length ≤ 17179869184) (hc : x.path.length ≤ c) : Calls Tryz.prog 96 #[x.val A c] w fun e w' => e = .returned (.bool (vN x)) ∧ Below w.heap.size w w' := by
  have HR := Lib.hid (vN_path x)
  have HVI := Lib.hid fun W => pVId_any x.id W
  have HVC := Lib.hid fun W => pVC_any x.cap W
  have HVP := Lib.hid fun W (hW : Below w.heap.size w W) => pVPa_any x A c W (h1.next hW) hl hc
  have HN0 := Lib.hid (NB.new w x.id A x.path.length c x.cap)
  have HB0 := Lib.hid (belt (Below.refl _ w) (.cells #[.int .i64 x.id.core, .int .i64 x.id.op, .int .i64 x.id.part, .slice A x.path.length c, .int .i64 x.cap.kind, .int .i64 x.cap.base, .int .i64 x.cap.bits, .int .i64 x.cap.rights, .int .i64 x.cap.width, .int .i64 x.cap.level, .bool x.cap.device] 30))
  generalize vN x = q at *
  generalize vI x.id = vi at *
  generalize vC x.cap = vc at *
  generalize vPath x.id x.path = vp at *
  unfold GN.val at *
  clear h1
  obtain ⟨⟨x0, x1, x2⟩, xl, ⟨xa0, xa1, xa2, xa3, xa4, xa5, xa6⟩⟩ := x
  simp only [GId.val, GC.val] at *
  generalize xl.length = n at *
  go_enter Tryz.func96, Tryz.ntmps96
  go_wp2_with fail
  go_fit (HVI.out _)
  rintro e w1 ⟨rfl, hb1⟩
  have HN1 := Lib.hid (HN0.out.next hb1)
  have HB1 := Lib.hid (beln HB0.out hb1)
  clear hb1 HN0 HB0 HVI
  rcases vi with _ | _
  · go_wp2
    go_ret
    exact ⟨congrArg (fun b => Ending.returned (Value.bool b)) (by rw [HR.out]; rfl), HB1.out⟩
  obtain ⟨d0, d1, d2, d3, d4, d5, d6, d7, d8, d9, d10⟩ := HN1.out.cells
  simp only at d0 d1 d2 d3 d4 d5 d6 d7 d8 d9 d10
  go_wp2_with fail
  go_fit (HVC.out _)
  rintro e w2 ⟨rfl, hb2⟩
  have HN2 := Lib.hid (HN1.out.next hb2)
  have HB2 := Lib.hid (beln HB1.out hb2)
  clear hb2 HN1 HB1 HVC d0 d1 d2 d3 d4 d5 d6 d7 d8 d9 d10
  rcases vc with _ | _
  · go_wp2
    go_ret
    exact ⟨congrArg (fun b => Ending.returned (Value.bool b)) (by rw [HR.out]; rfl), HB2.out⟩
  obtain ⟨d0, d1, d2, d3, d4, d5, d6, d7, d8, d9, d10⟩ := HN2.out.cells
  simp only at d0 d1 d2 d3 d4 d5 d6 d7 d8 d9 d10
  go_wp2_with fail
  go_fit (HVP.out _ HB2.out)
  rintro e w3 ⟨rfl, hb3⟩
  have HB3 := Lib.hid (beln HB2.out hb3)
  clear hb3 HN2 HB2 HVP d0 d1 d2 d3 d4 d5 d6 d7 d8 d9 d10
  go_wp2
  go_ret
  exact ⟨congrArg (fun b => Ending.returned (Value.bool b)) (by rw [HR.out]; rfl), HB3.out⟩
end Go.Proofs.YtndppbfdcceflaaGreatDoor
