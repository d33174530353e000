/-
  The kit's Ids: valid Ids, no two alike, at most eight.
  Conditions: none.
-/
import Derived.Test.YtndppbfdcceflaaNol
import Derived.Test.YtndppbfdcceflaaNmi
namespace Go.Proofs.Ytndppbfdcceflaa

open Go.RowKit

theorem vP_snoc {xs : List GId} {y : GId} (h : vP xs = true) (hy : vI y = true) (hn : hasI xs y = false) : vP (xs ++ [y]) = true := by
  unfold vP at h ⊢
  simp only [Bool.and_eq_true, List.all_eq_true, decide_eq_true_eq] at h ⊢
  refine ⟨fun z hz => ?_, List.pairwise_append.2 ⟨h.2, by simp, fun a ha b hb => ?_⟩⟩
  · rcases List.mem_append.1 hz with h1 | h1
    · exact h.1 z h1
    · obtain rfl := List.mem_singleton.1 h1; exact hy
  · obtain rfl := List.mem_singleton.1 hb
    intro e
    subst e
    unfold hasI at hn
    exact of_decide_eq_false hn ha
theorem put_id {W : World} {N : Nat} (y : GId) : Below N W (((W.setCell ⟨N, 0, none⟩ (.int .i64 y.core)).setCell ⟨N, 1, none⟩ (.int .i64 y.op)).setCell ⟨N, 2, none⟩ (.int .i64 y.part)) :=
  (((Below.refl N W).setCell (p := ⟨N, 0, none⟩) (Nat.le_refl _) _).setCell (p := ⟨N, 1, none⟩) (Nat.le_refl _) _).setCell (p := ⟨N, 2, none⟩) (Nat.le_refl _) _
def MIds (w : World) (e : Ending) (w' : World) : Prop := ∃ (xs : List GId) (v : Value), e = .returned v ∧ xs.length ≤ 8 ∧ vP xs = true ∧ OwnG GId.cells 24 3 w' w.heap.size v xs ∧ Below w.heap.size w w'
set_option maxRecDepth 20000 in
set_option maxHeartbeats 4000000 in
theorem mIds_any (a : Option Addr) (len cap : Nat) (zs : List Int) (w : World) (h : IRow w w.heap.size a len cap zs) (hl : len ≤ 40) :
    Calls Try.prog 12 #[.slice a len cap] w (MIds w) := by
  have HR := Lib.hid fun W (hW : Below w.heap.size w W) => h.below (Nat.le_refl _) hW
  have HID := Lib.hid fun a b c W => mId_any a b c W
  have HEND : Hid (∀ xs v W, xs.length ≤ 8 → vP xs = true → OwnG GId.cells 24 3 W w.heap.size v xs → Below w.heap.size w W → MIds w (.returned v) W) := Lib.hid fun xs v W h1 h2 h3 h4 => ⟨xs, v, rfl, h1, h2, h3, h4⟩
  generalize MIds w = EE at *
  clear h
  go_enter Try.func12, Try.ntmps12
  go_wp2
  go_loopw [3, 4] (fun v3 vi wr => ∃ (k : Nat) (xs : List GId) (A9 : Option Addr) (c9 : Nat), v3 = .slice A9 xs.length c9 ∧ vi = .int .i64 k ∧ k ≤ len ∧ Hid (vP xs = true) ∧ xs.length ≤ 8 ∧ Hid (OwnG GId.cells 24 3 wr w.heap.size (.slice A9 xs.length c9) xs) ∧ Hid (Below w.heap.size w wr)) (fun _ vi _ => len - (intOf vi).toNat)
  case atStart => exact ⟨0, [], none, 0, rfl, rfl, Nat.zero_le _, Lib.hid (by decide), by simp, Lib.hid (OwnG.nil _ _), Lib.hid (Below.refl _ _)⟩
  case round =>
    obtain ⟨k, xs, A9, c9, rfl, rfl, hk, HV, hx8, HO, HB⟩ := hrel
    rcases Nat.lt_or_ge k len with hlt | hge
    rotate_left
    · obtain rfl : k = len := by omega
      have f1 : decide ((k : Int) < (k : Int)) = false := by simp
      go_wp2
      exact HEND.out _ _ _ hx8 HV.out HO.out HB.out
    have f1 : decide ((k : Int) < (len : Int)) = true := by simp; omega
    rcases Nat.lt_or_ge xs.length 8 with h8 | h8
    rotate_left
    · have f2 : decide ((xs.length : Int) < 8) = false := by simp; omega
      clear h8
      go_wp2
      exact HEND.out _ _ _ hx8 HV.out HO.out HB.out
    have f2 : decide ((xs.length : Int) < 8) = true := by simp; omega
    obtain ⟨b0, o0, rfl, hb0, hcc⟩ := (HR.out _ HB.out).row (by omega)
    have x0 := hcc k hlt
    generalize zs.getD k 0 = z at *
    generalize wr = w9 at *
    have HBK := Lib.hid HB.out.size
    have hb0 : b0 < w9.heap.size := by have := HBK.out; omega
    clear hcc
    go_upto_region 5 with fail
    have hS := (Below.refl w9.heap.size w9).drew
    refine wp_region_gt (S := fun W => Below w9.heap.size w9 W) ((.fl 0 (.fl 1 (.fl 2 (.fl 3 (.fl 4 (.fl 5 (.fl 6 (.fl 7 (.fl 8 (.fl 9 (.fl 10 (.fl 11 (.fl 12 (.fl 13 (.two 14 15 (.op 15 (.op 16 .nil)) (.op 14 (.op 16 .nil)))))))))))))))))) (by kernel_rfl) (by kernel_rfl) (by kernel_rfl) (by kernel_rfl) (by intro c a d v w h; cases d <;> exact h) hS ?_
    iterate 14
      (first
        | (refine wpGT_float (v := ?_) (by simp only [List.getElem?_toArray, List.getElem?_cons_succ, List.getElem?_cons_zero]; rfl) (by rfl) ?_ ?_
           rotate_left
           · (intro W hW; have t0 := (hW.cell (p := ⟨b0, o0 + k, none⟩) hb0).trans x0; (try simp only at *); go_simp; try with_reducible rfl)
           simp only [Act.put, List.setIfInBounds_toArray, List.set_cons_zero, List.set_cons_succ])
        | (refine wpGT_skip (by simp only [List.getElem?_toArray, List.getElem?_cons_succ, List.getElem?_cons_zero]; rfl) (by rfl) ?_
           simp only [Act.put, List.setIfInBounds_toArray, List.set_cons_zero, List.set_cons_succ]))
    refine wpGT_two ?_ ?_
    · refine wpOp_call (by simp only [List.getElem?_toArray, List.getElem?_cons_succ, List.getElem?_cons_zero]; rfl) (by rfl) fun K hK => ?_
      go_simp
      go_fit (HID.out _ _ _ _)
      rintro e wn ⟨⟨yc, yo, yp⟩, hy, rfl, hbn⟩
      simp only [GId.val]
      have hS1 : Below w9.heap.size w9 wn := beln hS hbn
      go_simp
      refine hK _ _ hS1 ?_
      clear hK K
      try simp only [Act.put, List.setIfInBounds_toArray, List.set_cons_zero, List.set_cons_succ]
      refine wpGT_call (by simp only [List.getElem?_toArray, List.getElem?_cons_succ, List.getElem?_cons_zero]; rfl) (by rfl) fun K hK => ?_
      go_simp
      refine hK _ _ (belt hS1 _) ?_
      clear hK K
      try simp only [Act.put, List.setIfInBounds_toArray, List.set_cons_zero, List.set_cons_succ]
      refine wpGT_call (by simp only [List.getElem?_toArray, List.getElem?_cons_succ, List.getElem?_cons_zero]; rfl) (by rfl) fun K hK => ?_
      go_simp
      refine hK _ _ (belt hS1 _) ?_
      clear hK K
      try simp only [Act.put, List.setIfInBounds_toArray, List.set_cons_zero, List.set_cons_succ]
      refine wpGT_nil ?_
      have HI9 := Lib.hid (IB.new wn ⟨yc, yo, yp⟩)
      have HB9 : Hid (Below w9.heap.size w9 (wn.alloc (.cells #[.int .i64 yc, .int .i64 yo, .int .i64 yp] 24))) := Lib.hid (belt hS1 _)
      clear hS hS1 hbn x0
      simp only at HI9
      generalize wn.alloc (.cells #[.int .i64 yc, .int .i64 yo, .int .i64 yp] 24) = wq at *
      generalize wn.heap.size = M at *
      have HO5 := Lib.hid (HO.out.keep fun g hg => (HB9.out).block g (HO.out.lt g hg).2)
      have HB5 := Lib.hid (beln HB.out HB9.out)
      have HR5 := Lib.hid (OwnG.rowAt GId.len HO5.out).2
      have HH5 := Lib.hid fun W (hW : Below wq.heap.size wq W) => rHas_any xs A9 c9 ⟨yc, yo, yp⟩ W (HR5.out.next hW) (by omega)
      obtain ⟨y0, y1, y2⟩ := HI9.out.cells
      simp only at y0 y1 y2
      have hml := HI9.out.lt
      clear HR5
      simp only [GId.val] at HH5
      go_wp2_with fail
      go_fit (HH5.out _ (Below.refl _ _))
      rintro e w6 ⟨rfl, hb6⟩
      have HO6 := Lib.hid (HO5.out.keep fun g hg => hb6.block g (HO5.out.lt g hg).2)
      have HB6 := Lib.hid (beln HB5.out hb6)
      have HI6 := Lib.hid (HI9.out.next hb6)
      clear hb6 HO5 HB5 HI9 HH5 y0 y1 y2 hml HB9
      obtain ⟨y0, y1, y2⟩ := HI6.out.cells
      simp only at y0 y1 y2
      have hml := HI6.out.lt
      rcases hh : hasI xs ⟨yc, yo, yp⟩ with _ | _
      rotate_left
      · go_wp2
        go_roundw
        case rel => exact ⟨k + 1, xs, A9, c9, rfl, by go_num, by omega, HV, hx8, HO6, HB6⟩
        case measure => simp [intOf]; omega
      · have HV7 : Hid (vP (xs ++ [⟨yc, yo, yp⟩]) = true) := Lib.hid (vP_snoc HV.out hy hh)
        obtain ⟨v7, w7, hrun, hown, hg, hlow⟩ := OwnI.lit HO6.out (by have := HB6.out.size; omega) ⟨yc, yo, yp⟩ (by omega)
        obtain ⟨A7, c7, rfl, _, _, _⟩ := hown.row GId.len
        have HB7 : Hid (Below w.heap.size w w7) := Lib.hid ((belt HB6.out _).grown hg (by have := HB6.out.size; simp; omega) hlow)
        have HRUN := Lib.hid hrun
        have HO7 := Lib.hid hown
        have hl7 : (xs ++ [(⟨yc, yo, yp⟩ : GId)]).length ≤ 8 := by simp; omega
        clear hrun hown hg hlow hh
        generalize xs ++ [(⟨yc, yo, yp⟩ : GId)] = xs7 at *
        go_wp2_with (at_builtin; refine wpList_gapp HRUN.out rfl rfl rfl rfl rfl ?_)
        go_roundw
        case rel => exact ⟨k + 1, xs7, A7, c7, rfl, by go_num, by omega, HV7, hl7, HO7, HB7⟩
        case measure => simp [intOf]; omega
    · refine wpOp_call (by simp only [List.getElem?_toArray, List.getElem?_cons_succ, List.getElem?_cons_zero]; rfl) (by rfl) fun K hK => ?_
      go_simp
      have hbl : Below w9.heap.size w9 (w9.alloc (.cells #[.int .i64 0, .int .i64 0, .int .i64 0] 24)).drew := (belt (Below.refl _ w9) _).drew
      refine hK _ _ hbl ?_
      clear hK K
      try simp only [Act.put, List.setIfInBounds_toArray, List.set_cons_zero, List.set_cons_succ]
      refine wpGT_call (by simp only [List.getElem?_toArray, List.getElem?_cons_succ, List.getElem?_cons_zero]; rfl) (by rfl) fun K hK => ?_
      go_simp
      go_fit (HID.out _ _ _ _)
      rintro e wn ⟨⟨yc, yo, yp⟩, hy, rfl, hbn⟩
      simp only [GId.val]
      have hS1 : Below w9.heap.size w9 wn := beln hbl hbn
      have HI0 := Lib.hid (((IB.new w9 ⟨0, 0, 0⟩).next (Below.refl _ _).drew).next hbn)
      go_simp
      refine hK _ _ hS1 ?_
      clear hK K
      try simp only [Act.put, List.setIfInBounds_toArray, List.set_cons_zero, List.set_cons_succ]
      obtain ⟨z0, z1, z2⟩ := HI0.out.cells
      have zf := HI0.out.frz
      have zl := HI0.out.lt
      simp only at z0 z1 z2
      refine wpGT_call (by simp only [List.getElem?_toArray, List.getElem?_cons_succ, List.getElem?_cons_zero]; rfl) (by rfl) fun K hK => ?_
      go_simp
      have HI9 : Hid (IB (((wn.setCell ⟨w9.heap.size, 0, none⟩ (.int .i64 yc)).setCell ⟨w9.heap.size, 1, none⟩ (.int .i64 yo)).setCell ⟨w9.heap.size, 2, none⟩ (.int .i64 yp)) w9.heap.size ⟨yc, yo, yp⟩) := Lib.hid (HI0.out.store ⟨yc, yo, yp⟩)
      have HB9 : Hid (Below w9.heap.size w9 (((wn.setCell ⟨w9.heap.size, 0, none⟩ (.int .i64 yc)).setCell ⟨w9.heap.size, 1, none⟩ (.int .i64 yo)).setCell ⟨w9.heap.size, 2, none⟩ (.int .i64 yp))) := Lib.hid (hS1.trans (put_id ⟨yc, yo, yp⟩))
      refine hK _ _ HB9.out ?_
      clear hK K
      try simp only [Act.put, List.setIfInBounds_toArray, List.set_cons_zero, List.set_cons_succ]
      refine wpGT_nil ?_
      clear hS hS1 hbn hbl x0 z0 z1 z2 zf zl HI0
      generalize (((wn.setCell ⟨w9.heap.size, 0, none⟩ (.int .i64 yc)).setCell ⟨w9.heap.size, 1, none⟩ (.int .i64 yo)).setCell ⟨w9.heap.size, 2, none⟩ (.int .i64 yp)) = wq at *
      have HO5 := Lib.hid (HO.out.keep fun g hg => (HB9.out).block g (HO.out.lt g hg).2)
      have HB5 := Lib.hid (beln HB.out HB9.out)
      have HR5 := Lib.hid (OwnG.rowAt GId.len HO5.out).2
      have HH5 := Lib.hid fun W (hW : Below wq.heap.size wq W) => rHas_any xs A9 c9 ⟨yc, yo, yp⟩ W (HR5.out.next hW) (by omega)
      obtain ⟨y0, y1, y2⟩ := HI9.out.cells
      simp only at y0 y1 y2
      have hml := HI9.out.lt
      clear HR5
      simp only [GId.val] at HH5
      go_wp2_with fail
      go_fit (HH5.out _ (Below.refl _ _))
      rintro e w6 ⟨rfl, hb6⟩
      have HO6 := Lib.hid (HO5.out.keep fun g hg => hb6.block g (HO5.out.lt g hg).2)
      have HB6 := Lib.hid (beln HB5.out hb6)
      have HI6 := Lib.hid (HI9.out.next hb6)
      clear hb6 HO5 HB5 HI9 HH5 y0 y1 y2 hml HB9
      obtain ⟨y0, y1, y2⟩ := HI6.out.cells
      simp only at y0 y1 y2
      have hml := HI6.out.lt
      rcases hh : hasI xs ⟨yc, yo, yp⟩ with _ | _
      rotate_left
      · go_wp2
        go_roundw
        case rel => exact ⟨k + 1, xs, A9, c9, rfl, by go_num, by omega, HV, hx8, HO6, HB6⟩
        case measure => simp [intOf]; omega
      · have HV7 : Hid (vP (xs ++ [⟨yc, yo, yp⟩]) = true) := Lib.hid (vP_snoc HV.out hy hh)
        obtain ⟨v7, w7, hrun, hown, hg, hlow⟩ := OwnI.lit HO6.out (by have := HB6.out.size; omega) ⟨yc, yo, yp⟩ (by omega)
        obtain ⟨A7, c7, rfl, _, _, _⟩ := hown.row GId.len
        have HB7 : Hid (Below w.heap.size w w7) := Lib.hid ((belt HB6.out _).grown hg (by have := HB6.out.size; simp; omega) hlow)
        have HRUN := Lib.hid hrun
        have HO7 := Lib.hid hown
        have hl7 : (xs ++ [(⟨yc, yo, yp⟩ : GId)]).length ≤ 8 := by simp; omega
        clear hrun hown hg hlow hh
        generalize xs ++ [(⟨yc, yo, yp⟩ : GId)] = xs7 at *
        go_wp2_with (at_builtin; refine wpList_gapp HRUN.out rfl rfl rfl rfl rfl ?_)
        go_roundw
        case rel => exact ⟨k + 1, xs7, A7, c7, rfl, by go_num, by omega, HV7, hl7, HO7, HB7⟩
        case measure => simp [intOf]; omega
end Go.Proofs.Ytndppbfdcceflaa
