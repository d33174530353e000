/-
  Valid nodes, and the reference's ValidNode.
  Conditions: none.
-/
import Derived.Test.YtndppbfdcceflaaGreatDoorNab
namespace Go.Proofs.YtndppbfdcceflaaGreatDoor

open Go.RowKit

def vP (xs : List GId) : Bool := xs.all vI && decide (xs.Pairwise (· ≠ ·))
def vN (x : GN) : Bool := vI x.id && vC x.cap && decide (x.path.length ≤ 8) && !hasI x.path x.id && vP x.path
theorem vP_iff {xs : List GId} : vP xs = true ↔ ∀ j (hj : j < xs.length), vI xs[j] = true ∧ hasI (xs.take j) xs[j] = false := by
  unfold vP hasI
  rw [Bool.and_eq_true, List.all_eq_true, decide_eq_true_eq, List.pairwise_iff_getElem]
  constructor
  · rintro ⟨h1, h2⟩ j hj
    refine ⟨h1 _ (List.getElem_mem hj), ?_⟩
    rw [decide_eq_false_iff_not, List.mem_take_iff_getElem]
    rintro ⟨i, hi, e⟩
    exact h2 i j (by omega) hj (by omega) e
  · intro h
    refine ⟨fun x hx => ?_, fun i j hi hj hij e => ?_⟩
    · obtain ⟨j, hj, rfl⟩ := List.getElem_of_mem hx
      exact (h j hj).1
    · have h2 := (h j hj).2
      rw [decide_eq_false_iff_not, List.mem_take_iff_getElem] at h2
      exact h2 ⟨i, by omega, e⟩
theorem id_elem : Tryz.prog.underlying 26 = some (.slice (Tryz.prog.elem 26)) := by kernel_rfl
theorem run_idSize (W : World) : (sizeOf (Tryz.prog.elem 26)).run Tryz.prog W = .ok 3 W := by kernel_rfl
theorem run_take (w : World) (a : Option Addr) (len cap k : Nat) (hk : k ≤ cap) :
    (Instr.sliceAt 26 (.slice a len cap) none (some (.int .i64 (k : Int))) none).run Tryz.prog w = .ok (.slice a k cap) w := by
  rw [run_sliceAt_slice _ _ _ _ _ _ id_elem, run_slice_h _ _ _ _ _ id_elem .i64 (k : Int) (by omega) (by omega), run_idSize]
  cases a <;> simp [Result.andThen, sliced, Addr.add]
theorem GRow.take {α : Type} {enc : α → List Value} {k : Nat} {w : World} {B : Nat} {A : Option Addr} {xs : List α} (h : GRow enc k w B A xs) (j : Nat) : GRow enc k w B A (xs.take j) := fun hn => by
  rw [List.length_take] at hn
  obtain ⟨b, off, e, hb, hc⟩ := h (by omega)
  refine ⟨b, off, e, hb, fun i hi m u hu => ?_⟩
  rw [List.length_take] at hi
  rw [List.getElem_take] at hu
  exact hc i (by omega) m u hu
set_option maxRecDepth 20000 in
set_option maxHeartbeats 2000000 in
theorem rVN_any (x : GN) (A : Option Addr) (c : Nat) (w : World) (h1 : PRow w w.heap.size A x.path) (hl : x.path.length ≤ 17179869184) (hc : x.path.length ≤ c) :
    Calls Tryz.prog 53 #[x.val A c] w fun e w' => e = .returned (.bool (vN x)) ∧ Below w.heap.size w w' := by
  have HR : Hid (vN x = (vI x.id && vC x.cap && decide (x.path.length ≤ 8) && !hasI x.path x.id && vP x.path)) := Lib.hid rfl
  have HVI0 := Lib.hid fun W => rVId_any x.id W
  have HVC := Lib.hid fun W => rVC_any x.cap W
  have HH := Lib.hid fun W (hW : Below w.heap.size w W) => rHas_any x.path A c x.id W (h1.next hW) hl
  have HROW := Lib.hid fun W (hW : Below w.heap.size w W) => h1.next hW
  have HN0 := Lib.hid (NB.new w x.id A x.path.length c x.cap)
  have HPI := Lib.hid (vP_iff (xs := x.path))
  generalize vN x = q at *
  generalize vI x.id = vi at *
  generalize vC x.cap = vc at *
  generalize hasI x.path x.id = hs at *
  generalize vP x.path = vp at *
  unfold GN.val
  generalize hid : x.id = xi at *
  generalize hcp : x.cap = xc at *
  obtain ⟨i0, i1, i2⟩ := xi
  obtain ⟨a0, a1, a2, a3, a4, a5, a6⟩ := xc
  generalize x.path = xs at *
  clear h1 hid hcp
  simp only [GId.val, GC.val] at *
  have HBW := Lib.hid (belt (Below.refl _ w) (.cells #[.int .i64 i0, .int .i64 i1, .int .i64 i2, .slice A xs.length c, .int .i64 a0, .int .i64 a1, .int .i64 a2, .int .i64 a3, .int .i64 a4, .int .i64 a5, .bool a6] 30))
  go_enter Tryz.func53, Tryz.ntmps53
  go_wp2_with fail
  go_fit (HVI0.out _)
  rintro e w1 ⟨rfl, hb1⟩
  have HN1 := Lib.hid (HN0.out.next hb1)
  have HB1 := Lib.hid (beln HBW.out hb1)
  clear hb1 HN0 HBW HVI0
  rcases vi with _ | _
  · go_wp2
    go_ret
    exact ⟨congrArg (fun b => Ending.returned (Value.bool b)) (by rw [HR.out]; rfl), HB1.out⟩
  obtain ⟨d0, d1, d2, d3, d4, d5, d6, d7, d8, d9, d10⟩ := HN1.out.cells
  simp only at d0 d1 d2 d3 d4 d5 d6 d7 d8 d9 d10
  go_wp2_with fail
  go_fit (HVC.out _)
  rintro e w2 ⟨rfl, hb2⟩
  have HN2 := Lib.hid (HN1.out.next hb2)
  have HB2 := Lib.hid (beln HB1.out hb2)
  clear hb2 HN1 HB1 HVC d0 d1 d2 d3 d4 d5 d6 d7 d8 d9 d10
  rcases vc with _ | _
  · go_wp2
    go_ret
    exact ⟨congrArg (fun b => Ending.returned (Value.bool b)) (by rw [HR.out]; rfl), HB2.out⟩
  obtain ⟨d0, d1, d2, d3, d4, d5, d6, d7, d8, d9, d10⟩ := HN2.out.cells
  simp only at d0 d1 d2 d3 d4 d5 d6 d7 d8 d9 d10
  by_cases h8 : 8 < xs.length
  · have f8 : decide ((8 : Int) < (xs.length : Int)) = true := by simp; omega
    have HF : Hid (q = false) := Lib.hid (by rw [HR.out]; simp; omega)
    clear h8
    go_wp2
    go_ret
    exact ⟨congrArg (fun b => Ending.returned (Value.bool b)) HF.out.symm, HB2.out⟩
  have f8 : decide ((8 : Int) < (xs.length : Int)) = false := by simp; omega
  have HL8 : Hid (decide (xs.length ≤ 8) = true) := Lib.hid (by simp; omega)
  clear h8
  go_wp2_with fail
  go_fit (HH.out _ HB2.out)
  rintro e w3 ⟨rfl, hb3⟩
  have HN3 := Lib.hid (HN2.out.next hb3)
  have HB3 := Lib.hid (beln HB2.out hb3)
  clear hb3 HN2 HB2 HH d0 d1 d2 d3 d4 d5 d6 d7 d8 d9 d10
  rcases hs with _ | _
  rotate_left
  · go_wp2
    go_ret
    exact ⟨congrArg (fun b => Ending.returned (Value.bool b)) (by rw [HR.out]; simp), HB3.out⟩
  have HR2 : Hid (q = vp) := Lib.hid (by rw [HR.out, HL8.out]; rfl)
  clear HR HL8 f8
  generalize hNN : w.heap.size = N at *
  go_wp2
  go_loopw [3] (fun vi wr => ∃ k : Nat, vi = .int .i64 k ∧ k ≤ xs.length ∧ Hid (∀ j (hj : j < xs.length), j < k → vI xs[j] = true ∧ hasI (xs.take j) xs[j] = false) ∧ Hid (Below w3.heap.size w3 wr)) (fun vi _ => xs.length - (intOf vi).toNat)
  case atStart => exact ⟨0, rfl, Nat.zero_le _, Lib.hid fun j _ hj => absurd hj (by omega), Lib.hid (Below.refl _ _)⟩
  case round =>
    obtain ⟨k, rfl, hk, HT, HB⟩ := hrel
    generalize wr = wz at *
    obtain ⟨d0, d1, d2, d3, d4, d5, d6, d7, d8, d9, d10⟩ := (HN3.out.next HB.out).cells
    have hNz := (HN3.out.next HB.out).lt
    (try simp only at d3)
    clear d0 d1 d2 d4 d5 d6 d7 d8 d9 d10
    have hW9 : Below N w wz := by have h := HB3.out; have h2 := HB.out; rw [← hNN] at h ⊢; exact beln h h2
    rcases Nat.lt_or_ge k xs.length with hlt | hge
    · obtain ⟨b1, o1, rfl, hbz, x0, x1, x2⟩ := (HROW.out _ hW9).gid hlt
      have HTK := Lib.hid fun W => run_take W (some ⟨b1, o1, none⟩) xs.length c k (by omega)
      have HTR := Lib.hid fun W (hW : Below wz.heap.size wz W) => by
        have h := rHas_any (xs.take k) (some ⟨b1, o1, none⟩) c xs[k] W (((HROW.out _ hW9).next hW).take k) (by rw [List.length_take]; omega)
        rw [show (xs.take k).length = k by rw [List.length_take]; omega] at h
        exact h
      have HHS := HTR
      have HVI := Lib.hid fun W => rVId_any xs[k] W
      have HXI : Hid (vp = true → vI xs[k] = true ∧ hasI (xs.take k) xs[k] = false) := Lib.hid fun h => HPI.out.1 h k hlt
      have HTN : Hid (vI xs[k] = true → hasI (xs.take k) xs[k] = false → ∀ j (hj : j < xs.length), j < k + 1 → vI xs[j] = true ∧ hasI (xs.take j) xs[j] = false) := Lib.hid fun u1 u2 j hj hjk => by
        rcases Nat.lt_or_ge j k with h | h
        · exact HT.out j hj h
        · obtain rfl : j = k := by omega
          exact ⟨u1, u2⟩
      have HEN : Hid (∀ W, Below wz.heap.size wz W → Below N w W) := Lib.hid fun W hW => by rw [← hNN] at hW9 ⊢; exact beln hW9 hW
      clear HTR HT
      generalize hasI (xs.take k) xs[k] = hsk at *
      generalize vI xs[k] = vik at *
      generalize xs[k] = y at *
      obtain ⟨yc, yo, yp⟩ := y
      simp only [GId.val] at HHS HVI x0 x1 x2
      have hkl : decide ((k : Int) < (xs.length : Int)) = true := by simp; omega
      have HM : Hid (xs.length - (k + 1) < xs.length - k) := Lib.hid (by omega)
      go_upto_region 6 with fail
      have hS := (Below.refl wz.heap.size wz).drew
      rcases vik with _ | _
      · have HF : Hid (q = false) := Lib.hid (by rw [HR2.out]; cases vp with | false => rfl | true => exact absurd (HXI.out rfl).1 (by decide))
        refine wp_region_growS (S := fun W => Below wz.heap.size wz W) [(0, true), (1, true), (2, true), (3, true), (4, true), (5, false), (6, true), (7, true), (8, true), (9, true), (10, true), (11, true), (12, true), (13, true), (14, true), (15, true), (16, true), (17, false), (18, true)] (by kernel_rfl) (by kernel_rfl) (by kernel_rfl) (by kernel_rfl) (by intro c a d v w h; cases d <;> exact h) hS ?_
        iterate 5
          (first
            | (refine wpGrowS_float (v := ?_) (by simp only [List.getElem?_toArray, List.getElem?_cons_succ, List.getElem?_cons_zero]; rfl) (by rfl) ?_ ?_
               rotate_left
               · (intro W hW; have t3 := (hW.cell (p := ⟨N, 3, none⟩) hNz).trans d3; have e0 := (hW.cell (p := ⟨b1, o1 + k * 3, none⟩) hbz).trans x0; have e1 := (hW.cell (p := ⟨b1, o1 + k * 3 + 1, none⟩) hbz).trans x1; have e2 := (hW.cell (p := ⟨b1, o1 + k * 3 + 2, none⟩) hbz).trans x2; have etk := fun W => HTK.out W; (try simp only at *); go_simp; try with_reducible rfl)
               simp only [Act.put, List.setIfInBounds_toArray, List.set_cons_zero, List.set_cons_succ])
            | (refine wpGrowS_skip (by simp only [List.getElem?_toArray, List.getElem?_cons_succ, List.getElem?_cons_zero]; rfl) (by rfl) ?_
               simp only [Act.put, List.setIfInBounds_toArray, List.set_cons_zero, List.set_cons_succ]))
        refine wpGrowS_call (by simp only [List.getElem?_toArray, List.getElem?_cons_succ, List.getElem?_cons_zero]; rfl) (by rfl) fun K hK => ?_
        go_simp
        go_fit (HVI.out _)
        rintro e wn ⟨rfl, hbn⟩
        have hSp := hS
        have hS : Below wz.heap.size wz wn := beln hS hbn
        go_simp
        refine hK _ _ hS ?_
        clear hK K
        try simp only [Act.put, List.setIfInBounds_toArray, List.set_cons_zero, List.set_cons_succ]
        iterate 11
          (first
            | (refine wpGrowS_float (v := ?_) (by simp only [List.getElem?_toArray, List.getElem?_cons_succ, List.getElem?_cons_zero]; rfl) (by rfl) ?_ ?_
               rotate_left
               · (intro W hW; have t3 := (hW.cell (p := ⟨N, 3, none⟩) hNz).trans d3; have e0 := (hW.cell (p := ⟨b1, o1 + k * 3, none⟩) hbz).trans x0; have e1 := (hW.cell (p := ⟨b1, o1 + k * 3 + 1, none⟩) hbz).trans x1; have e2 := (hW.cell (p := ⟨b1, o1 + k * 3 + 2, none⟩) hbz).trans x2; have etk := fun W => HTK.out W; (try simp only at *); go_simp; try with_reducible rfl)
               simp only [Act.put, List.setIfInBounds_toArray, List.set_cons_zero, List.set_cons_succ])
            | (refine wpGrowS_skip (by simp only [List.getElem?_toArray, List.getElem?_cons_succ, List.getElem?_cons_zero]; rfl) (by rfl) ?_
               simp only [Act.put, List.setIfInBounds_toArray, List.set_cons_zero, List.set_cons_succ]))
        refine wpGrowS_pass hS (by simp only [List.getElem?_toArray, List.getElem?_cons_succ, List.getElem?_cons_zero]; rfl) (by rfl) ?_
        try simp only [Act.put, List.setIfInBounds_toArray, List.set_cons_zero, List.set_cons_succ]
        iterate 1
          (first
            | (refine wpGrowS_float (v := ?_) (by simp only [List.getElem?_toArray, List.getElem?_cons_succ, List.getElem?_cons_zero]; rfl) (by rfl) ?_ ?_
               rotate_left
               · (intro W hW; have t3 := (hW.cell (p := ⟨N, 3, none⟩) hNz).trans d3; have e0 := (hW.cell (p := ⟨b1, o1 + k * 3, none⟩) hbz).trans x0; have e1 := (hW.cell (p := ⟨b1, o1 + k * 3 + 1, none⟩) hbz).trans x1; have e2 := (hW.cell (p := ⟨b1, o1 + k * 3 + 2, none⟩) hbz).trans x2; have etk := fun W => HTK.out W; (try simp only at *); go_simp; try with_reducible rfl)
               simp only [Act.put, List.setIfInBounds_toArray, List.set_cons_zero, List.set_cons_succ])
            | (refine wpGrowS_skip (by simp only [List.getElem?_toArray, List.getElem?_cons_succ, List.getElem?_cons_zero]; rfl) (by rfl) ?_
               simp only [Act.put, List.setIfInBounds_toArray, List.set_cons_zero, List.set_cons_succ]))
        refine wpGrowS_nil ?_
        have HE := Lib.hid (HEN.out _ hS)
        clear hS hSp hbn x0 x1 x2 d3
        go_wp2
        go_ret
        exact ⟨congrArg (fun b => Ending.returned (Value.bool b)) HF.out.symm, by first | exact HE.out | (rw [hNN]; exact HE.out)⟩
      rcases hsk with _ | _
      rotate_left
      · have HF : Hid (q = false) := Lib.hid (by rw [HR2.out]; cases vp with | false => rfl | true => exact absurd (HXI.out rfl).2 (by decide))
        refine wp_region_growS (S := fun W => Below wz.heap.size wz W) [(0, true), (1, true), (2, true), (3, true), (4, true), (5, false), (6, true), (7, true), (8, true), (9, true), (10, true), (11, true), (12, true), (13, true), (14, true), (15, true), (16, true), (17, false), (18, true)] (by kernel_rfl) (by kernel_rfl) (by kernel_rfl) (by kernel_rfl) (by intro c a d v w h; cases d <;> exact h) hS ?_
        iterate 5
          (first
            | (refine wpGrowS_float (v := ?_) (by simp only [List.getElem?_toArray, List.getElem?_cons_succ, List.getElem?_cons_zero]; rfl) (by rfl) ?_ ?_
               rotate_left
               · (intro W hW; have t3 := (hW.cell (p := ⟨N, 3, none⟩) hNz).trans d3; have e0 := (hW.cell (p := ⟨b1, o1 + k * 3, none⟩) hbz).trans x0; have e1 := (hW.cell (p := ⟨b1, o1 + k * 3 + 1, none⟩) hbz).trans x1; have e2 := (hW.cell (p := ⟨b1, o1 + k * 3 + 2, none⟩) hbz).trans x2; have etk := fun W => HTK.out W; (try simp only at *); go_simp; try with_reducible rfl)
               simp only [Act.put, List.setIfInBounds_toArray, List.set_cons_zero, List.set_cons_succ])
            | (refine wpGrowS_skip (by simp only [List.getElem?_toArray, List.getElem?_cons_succ, List.getElem?_cons_zero]; rfl) (by rfl) ?_
               simp only [Act.put, List.setIfInBounds_toArray, List.set_cons_zero, List.set_cons_succ]))
        refine wpGrowS_call (by simp only [List.getElem?_toArray, List.getElem?_cons_succ, List.getElem?_cons_zero]; rfl) (by rfl) fun K hK => ?_
        go_simp
        go_fit (HVI.out _)
        rintro e wn ⟨rfl, hbn⟩
        have hSp := hS
        have hS : Below wz.heap.size wz wn := beln hS hbn
        go_simp
        refine hK _ _ hS ?_
        clear hK K
        try simp only [Act.put, List.setIfInBounds_toArray, List.set_cons_zero, List.set_cons_succ]
        iterate 11
          (first
            | (refine wpGrowS_float (v := ?_) (by simp only [List.getElem?_toArray, List.getElem?_cons_succ, List.getElem?_cons_zero]; rfl) (by rfl) ?_ ?_
               rotate_left
               · (intro W hW; have t3 := (hW.cell (p := ⟨N, 3, none⟩) hNz).trans d3; have e0 := (hW.cell (p := ⟨b1, o1 + k * 3, none⟩) hbz).trans x0; have e1 := (hW.cell (p := ⟨b1, o1 + k * 3 + 1, none⟩) hbz).trans x1; have e2 := (hW.cell (p := ⟨b1, o1 + k * 3 + 2, none⟩) hbz).trans x2; have etk := fun W => HTK.out W; (try simp only at *); go_simp; try with_reducible rfl)
               simp only [Act.put, List.setIfInBounds_toArray, List.set_cons_zero, List.set_cons_succ])
            | (refine wpGrowS_skip (by simp only [List.getElem?_toArray, List.getElem?_cons_succ, List.getElem?_cons_zero]; rfl) (by rfl) ?_
               simp only [Act.put, List.setIfInBounds_toArray, List.set_cons_zero, List.set_cons_succ]))
        refine wpGrowS_call (by simp only [List.getElem?_toArray, List.getElem?_cons_succ, List.getElem?_cons_zero]; rfl) (by rfl) fun K hK => ?_
        go_simp
        go_fit (HHS.out _ hS)
        rintro e wn ⟨rfl, hbn⟩
        have hSp := hS
        have hS : Below wz.heap.size wz wn := beln hS hbn
        go_simp
        refine hK _ _ hS ?_
        clear hK K
        try simp only [Act.put, List.setIfInBounds_toArray, List.set_cons_zero, List.set_cons_succ]
        iterate 1
          (first
            | (refine wpGrowS_float (v := ?_) (by simp only [List.getElem?_toArray, List.getElem?_cons_succ, List.getElem?_cons_zero]; rfl) (by rfl) ?_ ?_
               rotate_left
               · (intro W hW; have t3 := (hW.cell (p := ⟨N, 3, none⟩) hNz).trans d3; have e0 := (hW.cell (p := ⟨b1, o1 + k * 3, none⟩) hbz).trans x0; have e1 := (hW.cell (p := ⟨b1, o1 + k * 3 + 1, none⟩) hbz).trans x1; have e2 := (hW.cell (p := ⟨b1, o1 + k * 3 + 2, none⟩) hbz).trans x2; have etk := fun W => HTK.out W; (try simp only at *); go_simp; try with_reducible rfl)
               simp only [Act.put, List.setIfInBounds_toArray, List.set_cons_zero, List.set_cons_succ])
            | (refine wpGrowS_skip (by simp only [List.getElem?_toArray, List.getElem?_cons_succ, List.getElem?_cons_zero]; rfl) (by rfl) ?_
               simp only [Act.put, List.setIfInBounds_toArray, List.set_cons_zero, List.set_cons_succ]))
        refine wpGrowS_nil ?_
        have HE := Lib.hid (HEN.out _ hS)
        clear hS hSp hbn x0 x1 x2 d3
        go_wp2
        go_ret
        exact ⟨congrArg (fun b => Ending.returned (Value.bool b)) HF.out.symm, by first | exact HE.out | (rw [hNN]; exact HE.out)⟩
      · have HT2 := Lib.hid (HTN.out rfl rfl)
        refine wp_region_growS (S := fun W => Below wz.heap.size wz W) [(0, true), (1, true), (2, true), (3, true), (4, true), (5, false), (6, true), (7, true), (8, true), (9, true), (10, true), (11, true), (12, true), (13, true), (14, true), (15, true), (16, true), (17, false), (18, true)] (by kernel_rfl) (by kernel_rfl) (by kernel_rfl) (by kernel_rfl) (by intro c a d v w h; cases d <;> exact h) hS ?_
        iterate 5
          (first
            | (refine wpGrowS_float (v := ?_) (by simp only [List.getElem?_toArray, List.getElem?_cons_succ, List.getElem?_cons_zero]; rfl) (by rfl) ?_ ?_
               rotate_left
               · (intro W hW; have t3 := (hW.cell (p := ⟨N, 3, none⟩) hNz).trans d3; have e0 := (hW.cell (p := ⟨b1, o1 + k * 3, none⟩) hbz).trans x0; have e1 := (hW.cell (p := ⟨b1, o1 + k * 3 + 1, none⟩) hbz).trans x1; have e2 := (hW.cell (p := ⟨b1, o1 + k * 3 + 2, none⟩) hbz).trans x2; have etk := fun W => HTK.out W; (try simp only at *); go_simp; try with_reducible rfl)
               simp only [Act.put, List.setIfInBounds_toArray, List.set_cons_zero, List.set_cons_succ])
            | (refine wpGrowS_skip (by simp only [List.getElem?_toArray, List.getElem?_cons_succ, List.getElem?_cons_zero]; rfl) (by rfl) ?_
               simp only [Act.put, List.setIfInBounds_toArray, List.set_cons_zero, List.set_cons_succ]))
        refine wpGrowS_call (by simp only [List.getElem?_toArray, List.getElem?_cons_succ, List.getElem?_cons_zero]; rfl) (by rfl) fun K hK => ?_
        go_simp
        go_fit (HVI.out _)
        rintro e wn ⟨rfl, hbn⟩
        have hSp := hS
        have hS : Below wz.heap.size wz wn := beln hS hbn
        go_simp
        refine hK _ _ hS ?_
        clear hK K
        try simp only [Act.put, List.setIfInBounds_toArray, List.set_cons_zero, List.set_cons_succ]
        iterate 11
          (first
            | (refine wpGrowS_float (v := ?_) (by simp only [List.getElem?_toArray, List.getElem?_cons_succ, List.getElem?_cons_zero]; rfl) (by rfl) ?_ ?_
               rotate_left
               · (intro W hW; have t3 := (hW.cell (p := ⟨N, 3, none⟩) hNz).trans d3; have e0 := (hW.cell (p := ⟨b1, o1 + k * 3, none⟩) hbz).trans x0; have e1 := (hW.cell (p := ⟨b1, o1 + k * 3 + 1, none⟩) hbz).trans x1; have e2 := (hW.cell (p := ⟨b1, o1 + k * 3 + 2, none⟩) hbz).trans x2; have etk := fun W => HTK.out W; (try simp only at *); go_simp; try with_reducible rfl)
               simp only [Act.put, List.setIfInBounds_toArray, List.set_cons_zero, List.set_cons_succ])
            | (refine wpGrowS_skip (by simp only [List.getElem?_toArray, List.getElem?_cons_succ, List.getElem?_cons_zero]; rfl) (by rfl) ?_
               simp only [Act.put, List.setIfInBounds_toArray, List.set_cons_zero, List.set_cons_succ]))
        refine wpGrowS_call (by simp only [List.getElem?_toArray, List.getElem?_cons_succ, List.getElem?_cons_zero]; rfl) (by rfl) fun K hK => ?_
        go_simp
        go_fit (HHS.out _ hS)
        rintro e wn ⟨rfl, hbn⟩
        have hSp := hS
        have hS : Below wz.heap.size wz wn := beln hS hbn
        go_simp
        refine hK _ _ hS ?_
        clear hK K
        try simp only [Act.put, List.setIfInBounds_toArray, List.set_cons_zero, List.set_cons_succ]
        iterate 1
          (first
            | (refine wpGrowS_float (v := ?_) (by simp only [List.getElem?_toArray, List.getElem?_cons_succ, List.getElem?_cons_zero]; rfl) (by rfl) ?_ ?_
               rotate_left
               · (intro W hW; have t3 := (hW.cell (p := ⟨N, 3, none⟩) hNz).trans d3; have e0 := (hW.cell (p := ⟨b1, o1 + k * 3, none⟩) hbz).trans x0; have e1 := (hW.cell (p := ⟨b1, o1 + k * 3 + 1, none⟩) hbz).trans x1; have e2 := (hW.cell (p := ⟨b1, o1 + k * 3 + 2, none⟩) hbz).trans x2; have etk := fun W => HTK.out W; (try simp only at *); go_simp; try with_reducible rfl)
               simp only [Act.put, List.setIfInBounds_toArray, List.set_cons_zero, List.set_cons_succ])
            | (refine wpGrowS_skip (by simp only [List.getElem?_toArray, List.getElem?_cons_succ, List.getElem?_cons_zero]; rfl) (by rfl) ?_
               simp only [Act.put, List.setIfInBounds_toArray, List.set_cons_zero, List.set_cons_succ]))
        refine wpGrowS_nil ?_
        have HE := Lib.hid (beln HB.out hS)
        clear hS hSp hbn x0 x1 x2 d3
        go_wp2
        go_roundw
        case rel => exact ⟨k + 1, by go_num, by omega, HT2, HE⟩
        case measure => simp [intOf]; have := HM.out; omega
    · obtain rfl : k = xs.length := by omega
      have HF : Hid (q = true) := Lib.hid (by rw [HR2.out]; exact HPI.out.2 fun j hj => HT.out j hj hj)
      have HE := Lib.hid hW9
      clear hW9 HT
      go_wp2
      go_ret
      exact ⟨congrArg (fun b => Ending.returned (Value.bool b)) HF.out.symm, by first | exact HE.out | (rw [hNN]; exact HE.out)⟩
end Go.Proofs.YtndppbfdcceflaaGreatDoor
