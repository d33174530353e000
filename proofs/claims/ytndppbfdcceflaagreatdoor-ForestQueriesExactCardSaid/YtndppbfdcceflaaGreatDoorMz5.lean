/-
  The reference's Descendants and Parent; whether entries are few.
  Conditions: at most 100000 entries.
  The law ForestQueriesExact returns true.
  Conditions: the table of math/bits lies as the program's text lays it.
  Ids, slices of Ids, nodes, entries and slices of entries that come in as arguments, as the library opens them.
  Conditions: none beyond the frame's.
-/
import Derived.Test.YtndppbfdcceflaaGreatDoorMz4
import Derived.Deep.Slices
import Derived.Deep.Fields
import Derived.OpenShut
import Derived.ChangeSlices
import Derived.ChangeSame
import Derived.SizedLaws
namespace Go.Proofs.YtndppbfdcceflaaGreatDoor
open Go.RowKit

set_option maxRecDepth 20000 in
set_option maxHeartbeats 1000000 in
theorem rDesE_any (xs : List GV) (A : Option Addr) (c : Nat) (i : GId) (w : World) (h1 : ERow w w.heap.size A xs) (hl : xs.length ≤ 100000) (hp : ∀ x ∈ xs, x.e.node.path.length ≤ 17179869184) :
    Calls Tryz.prog 28 #[.slice A xs.length c, i.val] w (IdsEnd (desL (xs.map GV.e) i) w) := by
  have H1 := Lib.hid h1
  have HHL := Lib.hid fun k (hk : k < xs.length) W (hW : Below w.heap.size w W) => rHas_any xs[k].e.node.path xs[k].A xs[k].c i W ((h1.pth _ (List.getElem_mem hk)).1.next hW) (hp _ (List.getElem_mem hk))
  have HST := Lib.hid fun k (hk : k < xs.length) => desL_succ xs i hk
  have HLN : Hid (∀ k, (desL ((xs.map GV.e).take k) i).length ≤ k) := Lib.hid fun k => Nat.le_trans (desL_len _ _) (by simp; omega)
  have HALL : Hid (desL ((xs.map GV.e).take xs.length) i = desL (xs.map GV.e) i) := Lib.hid (by rw [List.take_of_length_le (by simp)])
  have HD0 : Hid (desL ((xs.map GV.e).take 0) i = []) := Lib.hid (by simp [desL])
  have HEND : Hid (∀ v W, OwnG GId.cells 25 3 W w.heap.size v (desL (xs.map GV.e) i) → Below w.heap.size w W → IdsEnd (desL (xs.map GV.e) i) w (.returned v) W) := Lib.hid fun v W h1 h2 => ⟨v, rfl, h1, h2⟩
  have HX := Lib.hid (IB.new w i)
  have HB0 := Lib.hid (belt (Below.refl _ w) (.cells #[.int .i64 i.core, .int .i64 i.op, .int .i64 i.part] 25))
  have HM0 : Hid (w.heap.size ≤ (w.alloc (.cells #[.int .i64 i.core, .int .i64 i.op, .int .i64 i.part] 25)).heap.size) := Lib.hid HB0.out.size
  generalize IdsEnd (desL (xs.map GV.e) i) w = EE at *
  generalize desL (xs.map GV.e) i = RL at *
  obtain ⟨D, hD⟩ : ∃ D : Nat → List GId, ∀ k, desL ((xs.map GV.e).take k) i = D k := ⟨_, fun _ => rfl⟩
  simp only [hD] at HST HLN HALL HD0
  clear h1 hp hD
  obtain ⟨j0, j1, j2⟩ := i
  simp only [GId.val] at *
  go_enter Tryz.func28, Tryz.ntmps28
  go_wp2
  generalize w.alloc (.cells #[.int .i64 j0, .int .i64 j1, .int .i64 j2] 25) = wI at *
  go_loopw [5, 6] (fun v5 vi wr => ∃ k : Nat, vi = .int .i64 k ∧ k ≤ xs.length ∧ Hid (OwnG GId.cells 25 3 wr wI.heap.size v5 (D k)) ∧ Hid (Below wI.heap.size wI wr)) (fun _ vi _ => xs.length - (intOf vi).toNat)
  case atStart => exact ⟨0, rfl, Nat.zero_le _, Lib.hid (by rw [HD0.out]; exact OwnG.nil _ _), Lib.hid (Below.refl _ _)⟩
  case round =>
    obtain ⟨k, rfl, hk, HO, HB⟩ := hrel
    have HBw := Lib.hid (beln HB0.out HB.out)
    rcases Nat.lt_or_ge k xs.length with hlt | hge
    · obtain ⟨An, cn, rfl, hcn, hmn, hrn⟩ := HO.out.row GId.len
      clear hcn hmn hrn
      obtain ⟨b1, o1, rfl, hb1, ⟨x0, x1, x2, x3, x4, x5, x6, x7, x8, x9, x10, x11, x12⟩⟩ := (H1.out.next HBw.out).row.gev hlt
      have HSK := Lib.hid (HST.out k hlt)
      have HLK := Lib.hid (HLN.out k)
      have HHK := Lib.hid fun W (hW : Below wr.heap.size wr W) => HHL.out k hlt W (beln HBw.out hW)
      generalize hasI xs[k].e.node.path ⟨j0, j1, j2⟩ = b at *
      generalize xs[k] = x at *
      obtain ⟨⟨xc, xs', ⟨⟨i0, i1, i2⟩, xp, ⟨a0, a1, a2, a3, a4, a5, a6⟩⟩⟩, xA, xcp⟩ := x
      simp only at x0 x1 x2 x3 x4 x5 x6 x7 x8 x9 x10 x11 x12 HSK HHK
      obtain ⟨y0, y1, y2⟩ := (HX.out.next HB.out).cells
      have hXl := (HX.out.next HB.out).lt
      simp only at y0 y1 y2
      have hk0 : 0 ≤ (k : Int) := by omega
      have hk1 : (k : Int) < (xs.length : Int) := by omega
      have hk2 : (k : Int).toNat = k := by omega
      go_upto_region 5 with fail
      have hS := (Below.refl wr.heap.size wr).drew
      refine wp_region_growS (S := fun W => Below wr.heap.size wr W) [(0, true), (1, true), (2, true), (3, true), (4, true), (5, true), (6, true), (7, false)] (by kernel_rfl) (by kernel_rfl) (by kernel_rfl) (by kernel_rfl) (by intro c a d v w h; cases d <;> exact h) hS ?_
      iterate 7
        (first
          | (refine wpGrowS_float (v := ?_) (by simp only [List.getElem?_toArray, List.getElem?_cons_succ, List.getElem?_cons_zero]; rfl) (by rfl) ?_ ?_
             rotate_left
             · (intro W hW; have t2 := (hW.cell (p := ⟨b1, o1 + k * 13 + 2, none⟩) hb1).trans x2; have t3 := (hW.cell (p := ⟨b1, o1 + k * 13 + 3, none⟩) hb1).trans x3; have t4 := (hW.cell (p := ⟨b1, o1 + k * 13 + 4, none⟩) hb1).trans x4; have t5 := (hW.cell (p := ⟨b1, o1 + k * 13 + 5, none⟩) hb1).trans x5; have t6 := (hW.cell (p := ⟨b1, o1 + k * 13 + 6, none⟩) hb1).trans x6; have t7 := (hW.cell (p := ⟨b1, o1 + k * 13 + 7, none⟩) hb1).trans x7; have t8 := (hW.cell (p := ⟨b1, o1 + k * 13 + 8, none⟩) hb1).trans x8; have t9 := (hW.cell (p := ⟨b1, o1 + k * 13 + 9, none⟩) hb1).trans x9; have t10 := (hW.cell (p := ⟨b1, o1 + k * 13 + 10, none⟩) hb1).trans x10; have t11 := (hW.cell (p := ⟨b1, o1 + k * 13 + 11, none⟩) hb1).trans x11; have t12 := (hW.cell (p := ⟨b1, o1 + k * 13 + 12, none⟩) hb1).trans x12; have u0 := (hW.cell (p := ⟨w.heap.size, 0, none⟩) hXl).trans y0; have u1 := (hW.cell (p := ⟨w.heap.size, 1, none⟩) hXl).trans y1; have u2 := (hW.cell (p := ⟨w.heap.size, 2, none⟩) hXl).trans y2; (try simp only at *); go_simp; try with_reducible rfl)
             simp only [Act.put, List.setIfInBounds_toArray, List.set_cons_zero, List.set_cons_succ])
          | (refine wpGrowS_skip (by simp only [List.getElem?_toArray, List.getElem?_cons_succ, List.getElem?_cons_zero]; rfl) (by rfl) ?_
             simp only [Act.put, List.setIfInBounds_toArray, List.set_cons_zero, List.set_cons_succ]))
      refine wpGrowS_call (by simp only [List.getElem?_toArray, List.getElem?_cons_succ, List.getElem?_cons_zero]; rfl) (by rfl) fun K hK => ?_
      go_simp
      go_fit (HHK.out _ hS)
      rintro e wn ⟨rfl, hbn⟩
      have hSp := hS
      have hS : Below wr.heap.size wr wn := beln hS hbn
      go_simp
      refine hK _ _ hS ?_
      clear hK K
      try simp only [Act.put, List.setIfInBounds_toArray, List.set_cons_zero, List.set_cons_succ]
      refine wpGrowS_nil ?_
      have HB2 := Lib.hid (beln HB.out hS)
      have HO2 := Lib.hid (HO.out.next hS)
      obtain ⟨_, _, z2, z3, z4, _, _, _, _, _, _, _, _⟩ := (show EVF wr b1 (o1 + k * 13) ⟨⟨xc, xs', ⟨⟨i0, i1, i2⟩, xp, ⟨a0, a1, a2, a3, a4, a5, a6⟩⟩⟩, xA, xcp⟩ from ⟨x0, x1, x2, x3, x4, x5, x6, x7, x8, x9, x10, x11, x12⟩).next hb1 hS
      simp only at z2 z3 z4
      clear hS x0 x1 x2 x3 x4 x5 x6 x7 x8 x9 x10 x11 x12 y0 y1 y2 HHK hk0 hk2 hXl
      rcases b with _ | _
      · have HO9 : Hid (OwnG GId.cells 25 3 wn wI.heap.size (.slice An (D k).length cn) (D (k + 1))) := Lib.hid (by rw [HSK.out, if_neg (by simp), List.append_nil]; exact HO2.out)
        clear z2 z3 z4
        go_wp2
        go_roundw
        case rel => exact ⟨k + 1, by go_num, by omega, HO9, HB2⟩
        case measure => simp [intOf]; omega
      · obtain ⟨v9, w9, hrun9, hown9, hb9⟩ := OwnI.snoc HO2.out HB2.out (Nat.le_refl _) HB2.out.size ⟨i0, i1, i2⟩ (by have := HLK.out; omega)
        simp only at hrun9
        have HRUN := Lib.hid hrun9
        have HB9 := Lib.hid hb9
        have HO9 : Hid (OwnG GId.cells 25 3 w9 wI.heap.size v9 (D (k + 1))) := Lib.hid (by rw [HSK.out, if_pos rfl]; exact hown9)
        clear hrun9 hown9 hb9
        generalize (D k).length = dl at *
        go_wp2_with (at_builtin; refine wpList_gapp HRUN.out rfl rfl rfl rfl rfl ?_)
        go_roundw
        case rel => exact ⟨k + 1, by go_num, by omega, HO9, HB9⟩
        case measure => simp [intOf]; omega
    · obtain rfl : k = xs.length := by omega
      have HO9 := Lib.hid (HO.out.low HM0.out)
      rw [HALL.out] at HO9
      go_wp2
      exact HEND.out _ _ HO9.out HBw.out
set_option maxRecDepth 20000 in
set_option maxHeartbeats 1000000 in
theorem rParE_any (xs : List GV) (A : Option Addr) (c : Nat) (i : GId) (w : World) (h1 : ERow w w.heap.size A xs) (hl : xs.length ≤ 100000) (hp : ∀ x ∈ xs, x.e.node.path.length ≤ 17179869184) :
    Calls Tryz.prog 23 #[.slice A xs.length c, i.val] w fun e w' => e = .returned (.tuple #[(parEI (xs.map GV.e) i).val, .bool (parEB (xs.map GV.e) i)]) ∧ Below w.heap.size w w' := by
  have H1 := Lib.hid h1
  have HFI := Lib.hid fun W (hW : Below w.heap.size w W) => rFindE_any xs A c i W (h1.row.next hW) (by omega)
  have HX := Lib.hid ((IB.new w i).next (belt (Below.refl _ _) (.cells #[.int .i64 0, .int .i64 0, .int .i64 0] 25)))
  have HZ := Lib.hid (IB.new (w.alloc (.cells #[.int .i64 i.core, .int .i64 i.op, .int .i64 i.part] 25)) ⟨0, 0, 0⟩)
  simp only [World.size_alloc] at HZ
  have HB0 := Lib.hid (belt (belt (Below.refl _ w) (.cells #[.int .i64 i.core, .int .i64 i.op, .int .i64 i.part] 25)) (.cells #[.int .i64 0, .int .i64 0, .int .i64 0] 25))
  rcases Int.lt_or_le (fidx (pid i) (xs.map GV.e)) 0 with hr | hr
  · obtain ⟨e1, e2⟩ := par_no hr
    rw [e1, e2]
    have f1 : decide (fidx (pid i) (xs.map GV.e) < 0) = true := by simpa using hr
    generalize fidx (pid i) (xs.map GV.e) = r at *
    clear e1 e2 h1 hp
    obtain ⟨j0, j1, j2⟩ := i
    simp only [GId.val] at *
    obtain ⟨y0, y1, y2⟩ := HX.out.cells
    simp only at y0 y1 y2
    go_enter Tryz.func23, Tryz.ntmps23
    go_wp2_with fail
    go_fit (HFI.out _ HB0.out)
    rintro e w1 ⟨rfl, hb1⟩
    have HB1 := Lib.hid (beln HB0.out hb1)
    obtain ⟨z0, z1, z2⟩ := (HZ.out.next hb1).cells
    have zf := (HZ.out.next hb1).frz
    simp only at z0 z1 z2
    clear hb1 HFI y0 y1 y2
    go_wp2
    refine bodyPost_ret (v := .tuple #[.agg #[.int .i64 0, .int .i64 0, .int .i64 0], .bool false]) (by simp [results, Tryz.results23, go_sem, z0, z1, z2]) rfl ?_
    exact ⟨rfl, ((HB1.out.setCell (p := ⟨w.heap.size + 1, 0, none⟩) (by simp) _).setCell (p := ⟨w.heap.size + 1, 1, none⟩) (by simp) _).setCell (p := ⟨w.heap.size + 1, 2, none⟩) (by simp) _⟩
  · obtain ⟨r, hr2⟩ := Int.eq_ofNat_of_zero_le hr
    obtain ⟨hrl, e1, e2⟩ := par_at hr2
    rw [e1, e2]
    rw [hr2] at HFI
    have HID := Lib.hid fun W (hW : Below w.heap.size w W) => rIdsE_any xs A c W (h1.row.next hW) hl
    have HPR := Lib.hid fun L d W (hW : Below w.heap.size w W) (hL : PRow W W.heap.size L (idsE (xs.map GV.e))) => rPar_any xs[r].e.node xs[r].A xs[r].c (idsE (xs.map GV.e)) L d W ((h1.pth _ (List.getElem_mem hrl)).1.next hW) hL (hp _ (List.getElem_mem hrl)) (by unfold idsE; simp; omega)
    have HLL : Hid ((idsE (xs.map GV.e)).length = xs.length) := Lib.hid (by unfold idsE; simp)
    obtain ⟨b1, o1, rfl, hb1, ⟨x0, x1, x2, x3, x4, x5, x6, x7, x8, x9, x10, x11, x12⟩⟩ := h1.row.gev hrl
    generalize parI xs[r].e.node.path (idsE (xs.map GV.e)) = pi at *
    generalize parB xs[r].e.node.path (idsE (xs.map GV.e)) = pb at *
    unfold IdsEnd at HID
    generalize idsE (xs.map GV.e) = RL at *
    unfold GN.val at HPR
    generalize hx : xs[r] = x at *
    clear hr hr2 e1 e2 h1 hp hx
    obtain ⟨⟨xc, xs', ⟨⟨i0, i1, i2⟩, xp, ⟨a0, a1, a2, a3, a4, a5, a6⟩⟩⟩, xA, xcp⟩ := x
    obtain ⟨j0, j1, j2⟩ := i
    simp only [GId.val] at *
    obtain ⟨y0, y1, y2⟩ := HX.out.cells
    simp only at y0 y1 y2
    go_enter Tryz.func23, Tryz.ntmps23
    go_wp2_with fail
    go_fit (HFI.out _ HB0.out)
    rintro e w1 ⟨rfl, hb1'⟩
    have HB1 := Lib.hid (beln HB0.out hb1')
    have HZ1 := Lib.hid (HZ.out.next hb1')
    clear hb1' HFI y0 y1 y2 HX HZ HB0
    have hk0 : 0 ≤ (r : Int) := by omega
    have hk1 : (r : Int) < (xs.length : Int) := by omega
    have hk2 : (r : Int).toNat = r := by omega
    have hk3 : ¬ ((r : Int) < 0) := by omega
    go_upto_region 4 with fail
    have hS : Below w.heap.size w w1.drew := HB1.out.drew
    refine wp_region_growS (S := fun W => Below w.heap.size w W) [(0, true), (1, true), (2, true), (3, true), (4, true), (5, true), (6, false), (7, false), (8, true), (9, true), (10, false), (11, true)] (by kernel_rfl) (by kernel_rfl) (by kernel_rfl) (by kernel_rfl) (by intro c a d v w h; cases d <;> exact h) hS ?_
    iterate 6
      (first
        | (refine wpGrowS_float (v := ?_) (by simp only [List.getElem?_toArray, List.getElem?_cons_succ, List.getElem?_cons_zero]; rfl) (by rfl) ?_ ?_
           rotate_left
           · (intro W hW; have t2 := (hW.cell (p := ⟨b1, o1 + r * 13 + 2, none⟩) hb1).trans x2; have t3 := (hW.cell (p := ⟨b1, o1 + r * 13 + 3, none⟩) hb1).trans x3; have t4 := (hW.cell (p := ⟨b1, o1 + r * 13 + 4, none⟩) hb1).trans x4; have t5 := (hW.cell (p := ⟨b1, o1 + r * 13 + 5, none⟩) hb1).trans x5; have t6 := (hW.cell (p := ⟨b1, o1 + r * 13 + 6, none⟩) hb1).trans x6; have t7 := (hW.cell (p := ⟨b1, o1 + r * 13 + 7, none⟩) hb1).trans x7; have t8 := (hW.cell (p := ⟨b1, o1 + r * 13 + 8, none⟩) hb1).trans x8; have t9 := (hW.cell (p := ⟨b1, o1 + r * 13 + 9, none⟩) hb1).trans x9; have t10 := (hW.cell (p := ⟨b1, o1 + r * 13 + 10, none⟩) hb1).trans x10; have t11 := (hW.cell (p := ⟨b1, o1 + r * 13 + 11, none⟩) hb1).trans x11; have t12 := (hW.cell (p := ⟨b1, o1 + r * 13 + 12, none⟩) hb1).trans x12; (try simp only at *); go_simp; try with_reducible rfl)
           simp only [Act.put, List.setIfInBounds_toArray, List.set_cons_zero, List.set_cons_succ])
        | (refine wpGrowS_skip (by simp only [List.getElem?_toArray, List.getElem?_cons_succ, List.getElem?_cons_zero]; rfl) (by rfl) ?_
           simp only [Act.put, List.setIfInBounds_toArray, List.set_cons_zero, List.set_cons_succ]))
    refine wpGrowS_call (by simp only [List.getElem?_toArray, List.getElem?_cons_succ, List.getElem?_cons_zero]; rfl) (by rfl) fun K hK => ?_
    go_simp
    go_fit (HID.out _ hS)
    rintro e w2 ⟨v2, rfl, ho2, hb2⟩
    obtain ⟨A2, c2, rfl, _, _, hr2⟩ := ho2.row GId.len
    have hS2 : Below w.heap.size w w2 := beln hS hb2
    have HZ2 := Lib.hid ((show IB w1.drew (w.heap.size + 1) ⟨0, 0, 0⟩ from HZ1.out).next hb2)
    have HPX := Lib.hid (HPR.out A2 c2 w2 hS2 hr2)
    rw [HLL.out] at HPX ⊢
    clear ho2 hb2 hr2
    go_simp
    refine hK _ _ hS2 ?_
    clear hK K
    try simp only [Act.put, List.setIfInBounds_toArray, List.set_cons_zero, List.set_cons_succ]
    refine wpGrowS_call (by simp only [List.getElem?_toArray, List.getElem?_cons_succ, List.getElem?_cons_zero]; rfl) (by rfl) fun K hK => ?_
    go_simp
    go_fit HPX.out
    rintro e w3 ⟨rfl, hb3⟩
    have hS3 : Below w.heap.size w w3 := beln hS2 hb3
    obtain ⟨z0, z1, z2⟩ := (HZ2.out.next hb3).cells
    have zf := (HZ2.out.next hb3).frz
    have zl := (HZ2.out.next hb3).lt
    simp only at z0 z1 z2
    obtain ⟨pi0, pi1, pi2⟩ := pi
    clear hb3 HPX
    go_simp
    refine hK _ _ hS3 ?_
    clear hK K
    try simp only [Act.put, List.setIfInBounds_toArray, List.set_cons_zero, List.set_cons_succ]
    iterate 2
      (first
        | (refine wpGrowS_float (v := ?_) (by simp only [List.getElem?_toArray, List.getElem?_cons_succ, List.getElem?_cons_zero]; rfl) (by rfl) ?_ ?_
           rotate_left
           · (intro W hW; have t2 := (hW.cell (p := ⟨b1, o1 + r * 13 + 2, none⟩) hb1).trans x2; have t3 := (hW.cell (p := ⟨b1, o1 + r * 13 + 3, none⟩) hb1).trans x3; have t4 := (hW.cell (p := ⟨b1, o1 + r * 13 + 4, none⟩) hb1).trans x4; have t5 := (hW.cell (p := ⟨b1, o1 + r * 13 + 5, none⟩) hb1).trans x5; have t6 := (hW.cell (p := ⟨b1, o1 + r * 13 + 6, none⟩) hb1).trans x6; have t7 := (hW.cell (p := ⟨b1, o1 + r * 13 + 7, none⟩) hb1).trans x7; have t8 := (hW.cell (p := ⟨b1, o1 + r * 13 + 8, none⟩) hb1).trans x8; have t9 := (hW.cell (p := ⟨b1, o1 + r * 13 + 9, none⟩) hb1).trans x9; have t10 := (hW.cell (p := ⟨b1, o1 + r * 13 + 10, none⟩) hb1).trans x10; have t11 := (hW.cell (p := ⟨b1, o1 + r * 13 + 11, none⟩) hb1).trans x11; have t12 := (hW.cell (p := ⟨b1, o1 + r * 13 + 12, none⟩) hb1).trans x12; (try simp only at *); go_simp; try with_reducible rfl)
           simp only [Act.put, List.setIfInBounds_toArray, List.set_cons_zero, List.set_cons_succ])
        | (refine wpGrowS_skip (by simp only [List.getElem?_toArray, List.getElem?_cons_succ, List.getElem?_cons_zero]; rfl) (by rfl) ?_
           simp only [Act.put, List.setIfInBounds_toArray, List.set_cons_zero, List.set_cons_succ]))
    refine wpGrowS_call (by simp only [List.getElem?_toArray, List.getElem?_cons_succ, List.getElem?_cons_zero]; rfl) (by rfl) fun K hK => ?_
    go_simp
    have hS4 := ((hS3.setCell (p := ⟨w.heap.size + 1, 0, none⟩) (by simp) (.int .i64 pi0)).setCell (p := ⟨w.heap.size + 1, 1, none⟩) (by simp) (.int .i64 pi1)).setCell (p := ⟨w.heap.size + 1, 2, none⟩) (by simp) (.int .i64 pi2)
    refine hK _ _ hS4 ?_
    clear hK K
    try simp only [Act.put, List.setIfInBounds_toArray, List.set_cons_zero, List.set_cons_succ]
    iterate 1
      (first
        | (refine wpGrowS_float (v := ?_) (by simp only [List.getElem?_toArray, List.getElem?_cons_succ, List.getElem?_cons_zero]; rfl) (by rfl) ?_ ?_
           rotate_left
           · (intro W hW; have t2 := (hW.cell (p := ⟨b1, o1 + r * 13 + 2, none⟩) hb1).trans x2; have t3 := (hW.cell (p := ⟨b1, o1 + r * 13 + 3, none⟩) hb1).trans x3; have t4 := (hW.cell (p := ⟨b1, o1 + r * 13 + 4, none⟩) hb1).trans x4; have t5 := (hW.cell (p := ⟨b1, o1 + r * 13 + 5, none⟩) hb1).trans x5; have t6 := (hW.cell (p := ⟨b1, o1 + r * 13 + 6, none⟩) hb1).trans x6; have t7 := (hW.cell (p := ⟨b1, o1 + r * 13 + 7, none⟩) hb1).trans x7; have t8 := (hW.cell (p := ⟨b1, o1 + r * 13 + 8, none⟩) hb1).trans x8; have t9 := (hW.cell (p := ⟨b1, o1 + r * 13 + 9, none⟩) hb1).trans x9; have t10 := (hW.cell (p := ⟨b1, o1 + r * 13 + 10, none⟩) hb1).trans x10; have t11 := (hW.cell (p := ⟨b1, o1 + r * 13 + 11, none⟩) hb1).trans x11; have t12 := (hW.cell (p := ⟨b1, o1 + r * 13 + 12, none⟩) hb1).trans x12; (try simp only at *); go_simp; try with_reducible rfl)
           simp only [Act.put, List.setIfInBounds_toArray, List.set_cons_zero, List.set_cons_succ])
        | (refine wpGrowS_skip (by simp only [List.getElem?_toArray, List.getElem?_cons_succ, List.getElem?_cons_zero]; rfl) (by rfl) ?_
           simp only [Act.put, List.setIfInBounds_toArray, List.set_cons_zero, List.set_cons_succ]))
    refine wpGrowS_nil ?_
    have HBF := Lib.hid hS4
    clear hS hS2 hS3 hS4 x0 x1 x2 x3 x4 x5 x6 x7 x8 x9 x10 x11 x12 hk0 hk1 hk2 hk3
    go_wp2
    refine bodyPost_ret (v := .tuple #[.agg #[.int .i64 pi0, .int .i64 pi1, .int .i64 pi2], .bool pb]) (by simp [results, Tryz.results23, go_sem, z0, z1, z2]) rfl ?_
    exact ⟨rfl, HBF.out⟩
/-- Whether entries are few and their paths short. -/
def fewE (xs : List GV) : Bool := (xs.take 50).all (fun x => decide (x.e.node.path.length ≤ 20)) && decide (xs.length ≤ 40)
theorem fewE_of {xs : List GV} (h : fewE xs = true) : xs.length ≤ 40 ∧ ∀ x ∈ xs, x.e.node.path.length ≤ 20 := by
  unfold fewE at h
  rw [Bool.and_eq_true, decide_eq_true_eq, List.all_eq_true] at h
  refine ⟨h.2, fun x hx => ?_⟩
  have := h.1 x (by rw [List.take_of_length_le (by omega)]; exact hx)
  simpa using this
set_option maxRecDepth 20000 in
set_option maxHeartbeats 1000000 in
theorem fewE_any (xs : List GV) (A : Option Addr) (c : Nat) (w : World) (h1 : GRow GV.cells 13 w w.heap.size A xs) :
    Calls Tryz.prog 13 #[.slice A xs.length c] w fun e w' => e = .returned (.bool (fewE xs)) ∧ w' = w := by
  have H1 := Lib.hid h1
  have HQ1 : Hid (∀ k (hk : k < xs.length), k < 50 → 20 < xs[k].e.node.path.length → fewE xs = false) := Lib.hid fun k hk h5 h2 => by
    unfold fewE
    rw [Bool.and_eq_false_iff]
    left
    rw [List.all_eq_false]
    refine ⟨xs[k], ?_, by simpa using h2⟩
    rw [List.mem_take_iff_getElem]
    exact ⟨k, by omega, rfl⟩
  have HQ2 : Hid ((∀ k (hk : k < xs.length), k < 50 → xs[k].e.node.path.length ≤ 20) → fewE xs = decide (xs.length ≤ 40)) := Lib.hid fun h => by
    unfold fewE
    have : (xs.take 50).all (fun x => decide (x.e.node.path.length ≤ 20)) = true := by
      rw [List.all_eq_true]
      intro x hx
      rw [List.mem_take_iff_getElem] at hx
      obtain ⟨k, hk, rfl⟩ := hx
      simpa using h k (by omega) (by omega)
    rw [this, Bool.true_and]
  generalize fewE xs = q at *
  clear h1
  go_enter Tryz.func13, Tryz.ntmps13
  go_wp2
  go_loopw [3] (fun vi wr => ∃ k : Nat, vi = .int .i64 k ∧ k ≤ 50 ∧ k ≤ xs.length ∧ Hid (∀ j (hj : j < xs.length), j < k → xs[j].e.node.path.length ≤ 20) ∧ Hid (wr = w)) (fun vi _ => 50 - (intOf vi).toNat)
  case atStart => exact ⟨0, rfl, Nat.zero_le _, Nat.zero_le _, Lib.hid fun j _ hj => absurd hj (by omega), Lib.hid rfl⟩
  case round =>
    obtain ⟨k, rfl, hk, hkl, HT, HB⟩ := hrel
    obtain rfl := HB.out
    by_cases hlt : k < xs.length ∧ k < 50
    · obtain ⟨hl1, hl2⟩ := hlt
      obtain ⟨b1, o1, rfl, hb1, ⟨x0, x1, x2, x3, x4, x5, x6, x7, x8, x9, x10, x11, x12⟩⟩ := H1.out.gev hl1
      by_cases h20 : 20 < xs[k].e.node.path.length
      · have HF := Lib.hid (HQ1.out k hl1 hl2 h20)
        have f2 : decide ((20 : Int) < (xs[k].e.node.path.length : Int)) = true := by simp; omega
        generalize xs[k].e.node.path.length = n at *
        clear x0 x1 x2 x3 x4 x6 x7 x8 x9 x10 x11 x12 HT
        go_wp2
        go_ret
        exact ⟨congrArg (fun b => Ending.returned (Value.bool b)) HF.out.symm, rfl⟩
      · have HT2 : Hid (∀ j (hj : j < xs.length), j < k + 1 → xs[j].e.node.path.length ≤ 20) := Lib.hid fun j hj hjk => by
          rcases Nat.lt_or_ge j k with h | h
          · exact HT.out j hj h
          · obtain rfl : j = k := by omega
            omega
        have f2 : decide ((20 : Int) < (xs[k].e.node.path.length : Int)) = false := by simp; omega
        generalize xs[k].e.node.path.length = n at *
        clear x0 x1 x2 x3 x4 x6 x7 x8 x9 x10 x11 x12 HT
        go_wp2
        go_roundw
        case rel => exact ⟨k + 1, by go_num, by omega, by omega, HT2, Lib.hid (by trivial)⟩
        case measure => simp [intOf]; omega
    · have HF := Lib.hid (HQ2.out fun j hj h5 => HT.out j hj (by omega))
      by_cases hge : k < xs.length
      · have h50 : ¬ k < 50 := fun h => hlt ⟨hge, h⟩
        obtain rfl : k = 50 := by omega
        clear hlt h50
        have HF2 : Hid (q = false) := Lib.hid (by rw [HF.out]; simp; omega)
        go_wp2
        go_ret
        exact ⟨congrArg (fun b => Ending.returned (Value.bool b)) (by rw [HF2.out]; simp; omega), rfl⟩
      · obtain rfl : k = xs.length := by omega
        clear hlt hge
        by_cases h40 : xs.length ≤ 40
        · have HF2 : Hid (q = true) := Lib.hid (by rw [HF.out]; simp; omega)
          go_wp2
          go_ret
          exact ⟨congrArg (fun b => Ending.returned (Value.bool b)) (by rw [HF2.out]; first | rfl | (simp; omega)), rfl⟩
        · have HF2 : Hid (q = false) := Lib.hid (by rw [HF.out]; simp; omega)
          go_wp2
          go_ret
          exact ⟨congrArg (fun b => Ending.returned (Value.bool b)) (by rw [HF2.out]; first | rfl | (simp; omega)), rfl⟩
end Go.Proofs.YtndppbfdcceflaaGreatDoor


namespace Go.Proofs.YtndppbfdcceflaaGreatDoor
open Go.RowKit

theorem fidx_two {α : Type} (p : α → Bool) (l : List α) : fidx p l = -1 ∨ ∃ n : Nat, fidx p l = n := by
  unfold fidx
  split
  · exact .inr ⟨_, rfl⟩
  · exact .inl rfl
set_option maxRecDepth 20000 in
set_option maxHeartbeats 4000000 in
theorem lqry13 (xs : List GV) (A : Option Addr) (c : Nat) (i : GId) (core slot : Int) (w : World) (h1 : ERow w w.heap.size A xs) (hG : T10 w) :
    Calls Tryz.prog 4 #[.slice A xs.length c, i.val, .int .i64 core, .int .i64 slot] w fun e w' => e = .returned (.bool true) ∧ Below w.heap.size w w' := by
  have HAW := Lib.hid fun W (hW : Below w.heap.size w W) => awake13 W (T10.next hG hW)
  have HFW := Lib.hid fun W (hW : Below w.heap.size w W) => fewE_any xs A c W (h1.row.next hW)
  have HI0 := Lib.hid (IB.new w i)
  have HB0 := Lib.hid (belt (Below.refl _ w) (.cells #[.int .i64 i.core, .int .i64 i.op, .int .i64 i.part] 25))
  cases hfw : fewE xs
  · rw [hfw] at HFW
    clear hfw h1 hG HI0
    obtain ⟨j0, j1, j2⟩ := i
    simp only [GId.val] at *
    go_enter Tryz.func4, Tryz.ntmps4
    go_wp2_with fail
    go_fit (HFW.out _ HB0.out)
    rintro e w1 ⟨rfl, hww⟩
    obtain rfl := hww
    go_wp2_with fail
    go_fit (HAW.out _ HB0.out)
    rintro e w2 ⟨rfl, hb2⟩
    have HB2 := Lib.hid (beln HB0.out hb2)
    clear hb2
    go_wp2
    go_ret
    exact ⟨rfl, HB2.out⟩
  rw [hfw] at HFW
  obtain ⟨hl, hp⟩ := fewE_of hfw
  have hpe : ∀ e ∈ xs.map GV.e, e.node.path.length ≤ 17179869184 := fun e he => by
    obtain ⟨x, hx, rfl⟩ := List.mem_map.1 he
    have := hp x hx
    omega
  have hpx : ∀ x ∈ xs, x.e.node.path.length ≤ 17179869184 := fun x hx => by have := hp x hx; omega
  obtain ⟨es, hes⟩ : ∃ es, xs.map GV.e = es := ⟨_, rfl⟩
  have hpy : ∀ ys : List GV, ys.map GV.e = es → (∀ y ∈ ys, y.e.node.path.length ≤ 17179869184) ∧ ys.length = xs.length := fun ys hy => ⟨fun y hm => hpe _ (by rw [hes, ← hy]; exact List.mem_map_of_mem hm), by have := congrArg List.length (hy.trans hes.symm); simpa using this⟩
  have HCP := Lib.hid fun W (hW : Below w.heap.size w W) => rCpE_any xs A c W (h1.next hW) (by omega) hpx
  have HFI := Lib.hid fun ys (hy : ys.map GV.e = es) B d W (hr : ERow W W.heap.size B ys) => pFindE_any ys B d i W hr.row (by have := (hpy ys hy).2; omega)
  have HAT := Lib.hid fun ys (hy : ys.map GV.e = es) B d W (hr : ERow W W.heap.size B ys) => pAtE_any ys B d core slot W hr.row (by have := (hpy ys hy).2; omega)
  have HPA := Lib.hid fun ys (hy : ys.map GV.e = es) B d W (hr : ERow W W.heap.size B ys) => pParE_any ys B d i W hr (by have := (hpy ys hy).2; omega) (hpy ys hy).1
  have HDE := Lib.hid fun ys (hy : ys.map GV.e = es) B d W (hr : ERow W W.heap.size B ys) => pDesE_any ys B d i W hr (by have := (hpy ys hy).2; omega) (hpy ys hy).1
  have HPR := Lib.hid fun W (hW : Below w.heap.size w W) => rParE_any xs A c i W (h1.next hW) (by omega) hpx
  have HFR := Lib.hid fun W (hW : Below w.heap.size w W) => rFindE_any xs A c i W (h1.next hW).row (by omega)
  have HAR := Lib.hid fun W (hW : Below w.heap.size w W) => rAtE_any xs A c core slot W (h1.next hW).row (by omega)
  have HDR := Lib.hid fun W (hW : Below w.heap.size w W) => rDesE_any xs A c i W (h1.next hW) (by omega) hpx
  rw [hes] at HCP HPR HFR HAR HDR
  have HFI : Hid (∀ ys (_ : ys.map GV.e = es) B d W (_ : ERow W W.heap.size B ys), Calls Tryz.prog 20 #[.slice B ys.length d, i.val] W fun e w' => e = .returned (findV (fidx (pid i) es)) ∧ Below W.heap.size W w') := Lib.hid fun ys hy B d W hr => by rw [← hy]; exact HFI.out ys hy B d W hr
  have HAT : Hid (∀ ys (_ : ys.map GV.e = es) B d W (_ : ERow W W.heap.size B ys), Calls Tryz.prog 21 #[.slice B ys.length d, .int .i64 core, .int .i64 slot] W fun e w' => e = .returned (findV (fidx (pat core slot) es)) ∧ Below W.heap.size W w') := Lib.hid fun ys hy B d W hr => by rw [← hy]; exact HAT.out ys hy B d W hr
  have HPA : Hid (∀ ys (_ : ys.map GV.e = es) B d W (_ : ERow W W.heap.size B ys), Calls Tryz.prog 22 #[.slice B ys.length d, i.val] W fun e w' => e = .returned (.tuple #[(parEI es i).val, .bool (parEB es i)]) ∧ Below W.heap.size W w') := Lib.hid fun ys hy B d W hr => by rw [← hy]; exact HPA.out ys hy B d W hr
  have HDE : Hid (∀ ys (_ : ys.map GV.e = es) B d W (_ : ERow W W.heap.size B ys), Calls Tryz.prog 27 #[.slice B ys.length d, i.val] W (IdsEnd (desL es i) W)) := Lib.hid fun ys hy B d W hr => by rw [← hy]; exact HDE.out ys hy B d W hr
  have hdl : (desL es i).length ≤ 40 := Nat.le_trans (desL_len es i) (by rw [← hes]; simpa using hl)
  have HSI := Lib.hid fun B d B' d' W (h : PRow W W.heap.size B (desL es i)) (h' : PRow W W.heap.size B' (desL es i)) => rSai_any (desL es i) (desL es i) B B' d d' W h h' (by omega) (by omega)
  simp only [decide_true] at HSI
  have hn1 := fidx_two (pid i) es
  have hn2 := fidx_two (pat core slot) es
  unfold findV at HFI HAT
  unfold EsEnd at HCP
  unfold IdsEnd at HDE HDR
  generalize fidx (pid i) es = r1 at *
  generalize fidx (pat core slot) es = r2 at *
  generalize parEI es i = pi at *
  generalize parEB es i = pb at *
  generalize desL es i = DL at *
  have HEQ := Lib.hid fun W => id_eql pi pi W
  rw [(eqI_iff _ _).2 rfl] at HEQ
  have HN1 := Lib.hid hn1
  have HN2 := Lib.hid hn2
  have hfpb : (pb == pb) = true := by simp
  clear hfw h1 hG hp hpe hpx hpy hes hn1 hn2 hdl
  obtain ⟨j0, j1, j2⟩ := i
  obtain ⟨p0, p1, p2⟩ := pi
  simp only [GId.val] at *
  go_enter Tryz.func4, Tryz.ntmps4
  go_wp2_with fail
  go_fit (HFW.out _ HB0.out)
  rintro e w1' ⟨rfl, hww⟩
  obtain rfl := hww
  clear HFW
  go_upto_region 3 with fail
  generalize w.alloc (.cells #[.int .i64 j0, .int .i64 j1, .int .i64 j2] 25) = w1 at *
  have HBK := HB0
  obtain ⟨y0, y1, y2⟩ := HI0.out.cells
  have hIl := HI0.out.lt
  simp only at y0 y1 y2
  have hS : Below w1.heap.size w1 w1.drew := (Below.refl _ w1).drew
  refine wp_region_growS (S := fun W => Below w1.heap.size w1 W) [(0, true), (2, true), (1, false), (3, false), (4, true), (5, true), (7, true), (6, true), (8, true)] (by kernel_rfl) (by kernel_rfl) (by kernel_rfl) (by kernel_rfl) (by intro c a d v w h; cases d <;> exact h) hS ?_
  iterate 2
    (first
      | (refine wpGrowS_float (v := ?_) (by simp only [List.getElem?_toArray, List.getElem?_cons_succ, List.getElem?_cons_zero]; rfl) (by rfl) ?_ ?_
         rotate_left
         · (intro W hW; have t0 := (hW.cell (p := ⟨w.heap.size, 0, none⟩) hIl).trans y0; have t1 := (hW.cell (p := ⟨w.heap.size, 1, none⟩) hIl).trans y1; have t2 := (hW.cell (p := ⟨w.heap.size, 2, none⟩) hIl).trans y2; (try simp only at *); go_simp; try with_reducible rfl)
         simp only [Act.put, List.setIfInBounds_toArray, List.set_cons_zero, List.set_cons_succ])
      | (refine wpGrowS_skip (by simp only [List.getElem?_toArray, List.getElem?_cons_succ, List.getElem?_cons_zero]; rfl) (by rfl) ?_
         simp only [Act.put, List.setIfInBounds_toArray, List.set_cons_zero, List.set_cons_succ]))
  refine wpGrowS_call (by simp only [List.getElem?_toArray, List.getElem?_cons_succ, List.getElem?_cons_zero]; rfl) (by rfl) fun K hK => ?_
  go_simp
  go_fit (HCP.out _ (beln HBK.out hS))
  rintro e wc3 ⟨vc3, ys3, rfl, hoc3, hmc3, hbc3⟩
  obtain ⟨Ac3, cc3, rfl, _, _, hrc3⟩ := hoc3.erow
  have hS3 := beln hS hbc3
  clear hoc3 hbc3
  go_simp
  refine hK _ _ hS3 ?_
  clear hK K
  try simp only [Act.put, List.setIfInBounds_toArray, List.set_cons_zero, List.set_cons_succ]
  refine wpGrowS_call (by simp only [List.getElem?_toArray, List.getElem?_cons_succ, List.getElem?_cons_zero]; rfl) (by rfl) fun K hK => ?_
  go_simp
  go_fit (HFI.out _ hmc3 _ _ _ hrc3)
  rintro e w3 ⟨rfl, hb3⟩
  have hS4 := beln hS3 hb3
  clear hrc3 hb3
  go_simp
  refine hK _ _ hS4 ?_
  clear hK K
  try simp only [Act.put, List.setIfInBounds_toArray, List.set_cons_zero, List.set_cons_succ]
  iterate 5
    (first
      | (refine wpGrowS_float (v := ?_) (by simp only [List.getElem?_toArray, List.getElem?_cons_succ, List.getElem?_cons_zero]; rfl) (by rfl) ?_ ?_
         rotate_left
         · (intro W hW; have t0 := (hW.cell (p := ⟨w.heap.size, 0, none⟩) hIl).trans y0; have t1 := (hW.cell (p := ⟨w.heap.size, 1, none⟩) hIl).trans y1; have t2 := (hW.cell (p := ⟨w.heap.size, 2, none⟩) hIl).trans y2; (try simp only at *); go_simp; try with_reducible rfl)
         simp only [Act.put, List.setIfInBounds_toArray, List.set_cons_zero, List.set_cons_succ])
      | (refine wpGrowS_skip (by simp only [List.getElem?_toArray, List.getElem?_cons_succ, List.getElem?_cons_zero]; rfl) (by rfl) ?_
         simp only [Act.put, List.setIfInBounds_toArray, List.set_cons_zero, List.set_cons_succ]))
  refine wpGrowS_nil ?_
  have HB3 := Lib.hid (beln HB0.out hS4)
  have HI3 := Lib.hid (HI0.out.next hS4)
  clear hS hS3 hS4 y0 y1 y2 hIl HBK HFI
  go_wp2_with fail
  go_fit (HCP.out _ HB3.out)
  rintro e w3a ⟨v3, ys3, rfl, ho3, hm3, hb3⟩
  obtain ⟨A3, c3, rfl, _, _, hr3⟩ := ho3.erow
  have HB3a := Lib.hid (beln HB3.out hb3)
  have HI3a := Lib.hid (HI3.out.next hb3)
  clear ho3 hb3
  go_wp2_with fail
  go_fit (HAT.out _ hm3 _ _ _ hr3)
  rintro e w4 ⟨rfl, hb4⟩
  have HB4 := Lib.hid (beln HB3a.out hb4)
  have HI4 := Lib.hid (HI3a.out.next hb4)
  clear hb4 hr3 hm3 HB3 HB3a HI3 HI3a HAT HB0 HI0
  go_upto_region 5 with fail
  go_cut [13, 14] (fun va vb wx => ∃ Q, va = .pointer (some ⟨Q, 0, none⟩) ∧ vb = .bool pb ∧ Hid (IB wx Q ⟨p0, p1, p2⟩) ∧ Hid (Below w.heap.size w wx) ∧ Hid (IB wx w.heap.size ⟨j0, j1, j2⟩))
  case first =>
    have HBK := HB4
    obtain ⟨y0, y1, y2⟩ := HI4.out.cells
    have hIl := HI4.out.lt
    simp only at y0 y1 y2
    have hS : Below w4.heap.size w4 w4.drew := (Below.refl _ w4).drew
    refine wp_region_gt (S := fun W => Below w4.heap.size w4 W) (.fl 0 (.fl 2 (.two 1 7 (.two 3 7 (.fl 4 (.fl 5 (.fl 6 (.op 7 (.op 8 (.fl 9 .nil)))))) (.op 3 (.fl 4 (.fl 5 (.fl 6 (.op 8 (.fl 9 .nil))))))) (.op 1 (.op 3 (.fl 4 (.fl 5 (.fl 6 (.op 8 (.fl 9 .nil)))))))))) (by kernel_rfl) (by kernel_rfl) (by kernel_rfl) (by kernel_rfl) (by intro c a d v w h; cases d <;> exact h) hS ?_
    iterate 2
      (first
        | (refine wpGT_float (v := ?_) (by simp only [List.getElem?_toArray, List.getElem?_cons_succ, List.getElem?_cons_zero]; rfl) (by rfl) ?_ ?_
           rotate_left
           · (intro W hW; have t0 := (hW.cell (p := ⟨w.heap.size, 0, none⟩) hIl).trans y0; have t1 := (hW.cell (p := ⟨w.heap.size, 1, none⟩) hIl).trans y1; have t2 := (hW.cell (p := ⟨w.heap.size, 2, none⟩) hIl).trans y2; (try simp only at *); go_simp; try with_reducible rfl)
           simp only [Act.put, List.setIfInBounds_toArray, List.set_cons_zero, List.set_cons_succ])
        | (refine wpGT_skip (by simp only [List.getElem?_toArray, List.getElem?_cons_succ, List.getElem?_cons_zero]; rfl) (by rfl) ?_
           simp only [Act.put, List.setIfInBounds_toArray, List.set_cons_zero, List.set_cons_succ]))
    refine wpGT_two ?_ ?_
    · refine wpOp_call (by simp only [List.getElem?_toArray, List.getElem?_cons_succ, List.getElem?_cons_zero]; rfl) (by rfl) fun K hK => ?_
      go_simp
      go_fit (HCP.out _ (beln HBK.out hS))
      rintro e wc5 ⟨vc5, ys5, rfl, hoc5, hmc5, hbc5⟩
      obtain ⟨Ac5, cc5, rfl, _, _, hrc5⟩ := hoc5.erow
      have hSa := beln hS hbc5
      clear hoc5 hbc5
      refine hK _ _ hSa ?_
      clear hK K
      try simp only [Act.put, List.setIfInBounds_toArray, List.set_cons_zero, List.set_cons_succ]
      refine wpGT_two ?_ ?_
      · refine wpOp_call (by simp only [List.getElem?_toArray, List.getElem?_cons_succ, List.getElem?_cons_zero]; rfl) (by rfl) fun K hK => ?_
        go_simp
        go_fit (HPA.out _ hmc5 _ _ _ hrc5)
        rintro e w5 ⟨rfl, hb5⟩
        have hSb := beln hSa hb5
        go_simp
        refine hK _ _ hSb ?_
        clear hK K
        try simp only [Act.put, List.setIfInBounds_toArray, List.set_cons_zero, List.set_cons_succ]
        iterate 3
          (first
            | (refine wpGT_float (v := ?_) (by simp only [List.getElem?_toArray, List.getElem?_cons_succ, List.getElem?_cons_zero]; rfl) (by rfl) ?_ ?_
               rotate_left
               · (intro W hW; skip; go_simp; try with_reducible rfl)
               simp only [Act.put, List.setIfInBounds_toArray, List.set_cons_zero, List.set_cons_succ])
            | (refine wpGT_skip (by simp only [List.getElem?_toArray, List.getElem?_cons_succ, List.getElem?_cons_zero]; rfl) (by rfl) ?_
               simp only [Act.put, List.setIfInBounds_toArray, List.set_cons_zero, List.set_cons_succ]))
        refine wpGT_call (by simp only [List.getElem?_toArray, List.getElem?_cons_succ, List.getElem?_cons_zero]; rfl) (by rfl) fun K hK => ?_
        go_simp
        refine hK _ _ (belt hSb _) ?_
        clear hK K
        try simp only [Act.put, List.setIfInBounds_toArray, List.set_cons_zero, List.set_cons_succ]
        refine wpGT_call (by simp only [List.getElem?_toArray, List.getElem?_cons_succ, List.getElem?_cons_zero]; rfl) (by rfl) fun K hK => ?_
        go_simp
        refine hK _ _ (belt hSb _) ?_
        clear hK K
        try simp only [Act.put, List.setIfInBounds_toArray, List.set_cons_zero, List.set_cons_succ]
        iterate 1
          (first
            | (refine wpGT_float (v := ?_) (by simp only [List.getElem?_toArray, List.getElem?_cons_succ, List.getElem?_cons_zero]; rfl) (by rfl) ?_ ?_
               rotate_left
               · (intro W hW; skip; go_simp; try with_reducible rfl)
               simp only [Act.put, List.setIfInBounds_toArray, List.set_cons_zero, List.set_cons_succ])
            | (refine wpGT_skip (by simp only [List.getElem?_toArray, List.getElem?_cons_succ, List.getElem?_cons_zero]; rfl) (by rfl) ?_
               simp only [Act.put, List.setIfInBounds_toArray, List.set_cons_zero, List.set_cons_succ]))
        have hQ : IB (w5.alloc (.cells #[.int .i64 p0, .int .i64 p1, .int .i64 p2] 25)) w5.heap.size ⟨p0, p1, p2⟩ := IB.new w5 ⟨p0, p1, p2⟩
        have hSq : Below w4.heap.size w4 (w5.alloc (.cells #[.int .i64 p0, .int .i64 p1, .int .i64 p2] 25)) := belt hSb _
        refine wpGT_nil ?_
        have HIBQ := Lib.hid hQ
        have HBQ := Lib.hid (beln HB4.out hSq)
        have HIQ := Lib.hid (HI4.out.next hSq)
        go_wp2_with fail
        go_meet
        exact ⟨_, rfl, rfl, HIBQ, HBQ, HIQ⟩
      · refine wpOp_call (by simp only [List.getElem?_toArray, List.getElem?_cons_succ, List.getElem?_cons_zero]; rfl) (by rfl) fun K hK => ?_
        go_simp
        have hSz : Below w4.heap.size w4 (wc5.alloc (.cells #[.int .i64 0, .int .i64 0, .int .i64 0] 25)) := belt hSa _
        refine hK _ _ hSz ?_
        clear hK K
        try simp only [Act.put, List.setIfInBounds_toArray, List.set_cons_zero, List.set_cons_succ]
        refine wpGT_call (by simp only [List.getElem?_toArray, List.getElem?_cons_succ, List.getElem?_cons_zero]; rfl) (by rfl) fun K hK => ?_
        go_simp
        go_fit (HPA.out _ hmc5 _ _ _ (hrc5.next (belt (Below.refl _ wc5) (.cells #[.int .i64 0, .int .i64 0, .int .i64 0] 25))))
        rintro e w5 ⟨rfl, hb5⟩
        have hSb := beln hSz hb5
        have HZ5 := Lib.hid ((IB.new wc5 ⟨0, 0, 0⟩).next hb5)
        have hle : w4.heap.size ≤ wc5.heap.size := hSa.size
        go_simp
        refine hK _ _ hSb ?_
        clear hK K
        try simp only [Act.put, List.setIfInBounds_toArray, List.set_cons_zero, List.set_cons_succ]
        iterate 3
          (first
            | (refine wpGT_float (v := ?_) (by simp only [List.getElem?_toArray, List.getElem?_cons_succ, List.getElem?_cons_zero]; rfl) (by rfl) ?_ ?_
               rotate_left
               · (intro W hW; skip; go_simp; try with_reducible rfl)
               simp only [Act.put, List.setIfInBounds_toArray, List.set_cons_zero, List.set_cons_succ])
            | (refine wpGT_skip (by simp only [List.getElem?_toArray, List.getElem?_cons_succ, List.getElem?_cons_zero]; rfl) (by rfl) ?_
               simp only [Act.put, List.setIfInBounds_toArray, List.set_cons_zero, List.set_cons_succ]))
        obtain ⟨z0, z1, z2⟩ := HZ5.out.cells
        have zf := HZ5.out.frz
        have zl := HZ5.out.lt
        simp only at z0 z1 z2
        have hSq : Below w4.heap.size w4 (((w5.setCell ⟨wc5.heap.size, 0, none⟩ (.int .i64 p0)).setCell ⟨wc5.heap.size, 1, none⟩ (.int .i64 p1)).setCell ⟨wc5.heap.size, 2, none⟩ (.int .i64 p2)) := ((hSb.setCell (p := ⟨wc5.heap.size, 0, none⟩) hle _).setCell (p := ⟨wc5.heap.size, 1, none⟩) hle _).setCell (p := ⟨wc5.heap.size, 2, none⟩) hle _
        have hQ : IB (((w5.setCell ⟨wc5.heap.size, 0, none⟩ (.int .i64 p0)).setCell ⟨wc5.heap.size, 1, none⟩ (.int .i64 p1)).setCell ⟨wc5.heap.size, 2, none⟩ (.int .i64 p2)) (wc5.heap.size) ⟨p0, p1, p2⟩ := HZ5.out.store ⟨p0, p1, p2⟩
        refine wpGT_call (by simp only [List.getElem?_toArray, List.getElem?_cons_succ, List.getElem?_cons_zero]; rfl) (by rfl) fun K hK => ?_
        go_simp
        refine hK _ _ hSq ?_
        clear hK K
        try simp only [Act.put, List.setIfInBounds_toArray, List.set_cons_zero, List.set_cons_succ]
        iterate 1
          (first
            | (refine wpGT_float (v := ?_) (by simp only [List.getElem?_toArray, List.getElem?_cons_succ, List.getElem?_cons_zero]; rfl) (by rfl) ?_ ?_
               rotate_left
               · (intro W hW; skip; go_simp; try with_reducible rfl)
               simp only [Act.put, List.setIfInBounds_toArray, List.set_cons_zero, List.set_cons_succ])
            | (refine wpGT_skip (by simp only [List.getElem?_toArray, List.getElem?_cons_succ, List.getElem?_cons_zero]; rfl) (by rfl) ?_
               simp only [Act.put, List.setIfInBounds_toArray, List.set_cons_zero, List.set_cons_succ]))
        refine wpGT_nil ?_
        have HIBQ := Lib.hid hQ
        have HBQ := Lib.hid (beln HB4.out hSq)
        have HIQ := Lib.hid (HI4.out.next hSq)
        go_wp2_with fail
        go_meet
        exact ⟨_, rfl, rfl, HIBQ, HBQ, HIQ⟩
    · refine wpOp_call (by simp only [List.getElem?_toArray, List.getElem?_cons_succ, List.getElem?_cons_zero]; rfl) (by rfl) fun K hK => ?_
      go_simp
      have hSz : Below w4.heap.size w4 (w4.alloc (.cells #[.int .i64 0, .int .i64 0, .int .i64 0] 25)).drew := (belt (Below.refl _ w4) _).drew
      refine hK _ _ hSz ?_
      clear hK K
      try simp only [Act.put, List.setIfInBounds_toArray, List.set_cons_zero, List.set_cons_succ]
      refine wpGT_call (by simp only [List.getElem?_toArray, List.getElem?_cons_succ, List.getElem?_cons_zero]; rfl) (by rfl) fun K hK => ?_
      go_simp
      go_fit (HCP.out _ (beln HBK.out hSz))
      rintro e wc5 ⟨vc5, ys5, rfl, hoc5, hmc5, hbc5⟩
      obtain ⟨Ac5, cc5, rfl, _, _, hrc5⟩ := hoc5.erow
      have hSa := beln hSz hbc5
      have hbcK := hbc5
      clear hoc5 hbc5
      have HZ4 := Lib.hid (((IB.new w4 ⟨0, 0, 0⟩).next (Below.refl _ _).drew).next hbcK)
      refine hK _ _ hSa ?_
      clear hK K
      try simp only [Act.put, List.setIfInBounds_toArray, List.set_cons_zero, List.set_cons_succ]
      refine wpGT_call (by simp only [List.getElem?_toArray, List.getElem?_cons_succ, List.getElem?_cons_zero]; rfl) (by rfl) fun K hK => ?_
      go_simp
      go_fit (HPA.out _ hmc5 _ _ _ hrc5)
      rintro e w5 ⟨rfl, hb5⟩
      have hSb := beln hSa hb5
      have HZ5 := Lib.hid (HZ4.out.next hb5)
      go_simp
      refine hK _ _ hSb ?_
      clear hK K
      try simp only [Act.put, List.setIfInBounds_toArray, List.set_cons_zero, List.set_cons_succ]
      iterate 3
        (first
          | (refine wpGT_float (v := ?_) (by simp only [List.getElem?_toArray, List.getElem?_cons_succ, List.getElem?_cons_zero]; rfl) (by rfl) ?_ ?_
             rotate_left
             · (intro W hW; skip; go_simp; try with_reducible rfl)
             simp only [Act.put, List.setIfInBounds_toArray, List.set_cons_zero, List.set_cons_succ])
          | (refine wpGT_skip (by simp only [List.getElem?_toArray, List.getElem?_cons_succ, List.getElem?_cons_zero]; rfl) (by rfl) ?_
             simp only [Act.put, List.setIfInBounds_toArray, List.set_cons_zero, List.set_cons_succ]))
      obtain ⟨z0, z1, z2⟩ := HZ5.out.cells
      have zf := HZ5.out.frz
      have zl := HZ5.out.lt
      simp only at z0 z1 z2
      have hSq : Below w4.heap.size w4 (((w5.setCell ⟨w4.heap.size, 0, none⟩ (.int .i64 p0)).setCell ⟨w4.heap.size, 1, none⟩ (.int .i64 p1)).setCell ⟨w4.heap.size, 2, none⟩ (.int .i64 p2)) := ((hSb.setCell (p := ⟨w4.heap.size, 0, none⟩) (Nat.le_refl _) _).setCell (p := ⟨w4.heap.size, 1, none⟩) (Nat.le_refl _) _).setCell (p := ⟨w4.heap.size, 2, none⟩) (Nat.le_refl _) _
      have hQ : IB (((w5.setCell ⟨w4.heap.size, 0, none⟩ (.int .i64 p0)).setCell ⟨w4.heap.size, 1, none⟩ (.int .i64 p1)).setCell ⟨w4.heap.size, 2, none⟩ (.int .i64 p2)) (w4.heap.size) ⟨p0, p1, p2⟩ := HZ5.out.store ⟨p0, p1, p2⟩
      refine wpGT_call (by simp only [List.getElem?_toArray, List.getElem?_cons_succ, List.getElem?_cons_zero]; rfl) (by rfl) fun K hK => ?_
      go_simp
      refine hK _ _ hSq ?_
      clear hK K
      try simp only [Act.put, List.setIfInBounds_toArray, List.set_cons_zero, List.set_cons_succ]
      iterate 1
        (first
          | (refine wpGT_float (v := ?_) (by simp only [List.getElem?_toArray, List.getElem?_cons_succ, List.getElem?_cons_zero]; rfl) (by rfl) ?_ ?_
             rotate_left
             · (intro W hW; skip; go_simp; try with_reducible rfl)
             simp only [Act.put, List.setIfInBounds_toArray, List.set_cons_zero, List.set_cons_succ])
          | (refine wpGT_skip (by simp only [List.getElem?_toArray, List.getElem?_cons_succ, List.getElem?_cons_zero]; rfl) (by rfl) ?_
             simp only [Act.put, List.setIfInBounds_toArray, List.set_cons_zero, List.set_cons_succ]))
      refine wpGT_nil ?_
      have HIBQ := Lib.hid hQ
      have HBQ := Lib.hid (beln HB4.out hSq)
      have HIQ := Lib.hid (HI4.out.next hSq)
      go_wp2_with fail
      go_meet
      exact ⟨_, rfl, rfl, HIBQ, HBQ, HIQ⟩
  case rest =>
    obtain ⟨Q, rfl, rfl, HQ5, HB5, HI5⟩ := hcut
    clear HB4 HI4 HPA
    generalize wc = w5 at *
    obtain ⟨y0, y1, y2⟩ := HI5.out.cells
    simp only at y0 y1 y2
    go_wp2_with fail
    go_fit (HPR.out _ HB5.out)
    rintro e w6 ⟨rfl, hb6⟩
    have HB6 := Lib.hid (belt (beln HB5.out hb6) (.cells #[.int .i64 p0, .int .i64 p1, .int .i64 p2] 25))
    have HI6 := Lib.hid ((HI5.out.next hb6).next (belt (Below.refl _ w6) (.cells #[.int .i64 p0, .int .i64 p1, .int .i64 p2] 25)))
    have HQ6 := Lib.hid ((HQ5.out.next hb6).next (belt (Below.refl _ w6) (.cells #[.int .i64 p0, .int .i64 p1, .int .i64 p2] 25)))
    have HU6 := Lib.hid (IB.new w6 ⟨p0, p1, p2⟩)
    clear hb6 HPR HQ5 HB5 HI5 y0 y1 y2
    obtain ⟨y0, y1, y2⟩ := HI6.out.cells
    simp only at y0 y1 y2 HU6
    go_wp2_with fail
    go_fit (HFR.out _ HB6.out)
    rintro e w7 ⟨rfl, hb7⟩
    have HB7 := Lib.hid (beln HB6.out hb7)
    have HI7 := Lib.hid (HI6.out.next hb7)
    have HQ7 := Lib.hid (HQ6.out.next hb7)
    have HU7 := Lib.hid (HU6.out.next hb7)
    clear hb7 HFR HB6 HI6 HQ6 HU6 y0 y1 y2
    go_wp2_with fail
    go_fit (HAR.out _ HB7.out)
    rintro e w8 ⟨rfl, hb8⟩
    have HBK := Lib.hid (beln HB7.out hb8)
    have HI8 := Lib.hid (HI7.out.next hb8)
    have HQ8 := Lib.hid (HQ7.out.next hb8)
    have HU8 := Lib.hid (HU7.out.next hb8)
    clear hb8 HAR HB7 HI7 HQ7 HU7
    obtain ⟨y0, y1, y2⟩ := HI8.out.cells
    obtain ⟨a0, a1, a2⟩ := HQ8.out.cells
    obtain ⟨b0, b1, b2⟩ := HU8.out.cells
    have hIl9 := HI8.out.lt
    have hQl9 := HQ8.out.lt
    have hUl9 := HU8.out.lt
    simp only at y0 y1 y2 a0 a1 a2 b0 b1 b2
    rcases HN1.out with hn1 | hn1
    · rcases HN2.out with hn2 | hn2
      · subst hn1
        subst hn2
        clear HN1 HN2
        go_upto_region 9 with fail
        have hS : Below w8.heap.size w8 w8.drew := (Below.refl _ w8).drew
        refine wp_region_growS (S := fun W => Below w8.heap.size w8 W) [(0, true), (1, true), (2, true), (3, true), (4, true), (5, true), (6, true), (7, false), (8, true), (9, true), (10, true), (11, true), (12, true), (13, true), (14, true), (15, true), (16, true), (17, true), (18, true), (19, false), (20, true), (21, true), (22, true), (23, true), (24, true), (25, true), (26, true), (27, true), (28, true), (29, true), (30, true), (31, true), (32, true), (33, true), (35, true), (37, true), (38, true), (34, false), (36, false), (39, false), (40, false), (41, true), (42, true), (43, false), (44, true), (45, true)] (by kernel_rfl) (by kernel_rfl) (by kernel_rfl) (by kernel_rfl) (by intro c a d v w h; cases d <;> exact h) hS ?_
        iterate 7
          (first
            | (refine wpGrowS_float (v := ?_) (by simp only [List.getElem?_toArray, List.getElem?_cons_succ, List.getElem?_cons_zero]; rfl) (by rfl) ?_ ?_
               rotate_left
               · (intro W hW; have t0 := (hW.cell (p := ⟨w.heap.size, 0, none⟩) hIl9).trans y0; have t1 := (hW.cell (p := ⟨w.heap.size, 1, none⟩) hIl9).trans y1; have t2 := (hW.cell (p := ⟨w.heap.size, 2, none⟩) hIl9).trans y2; have q0 := (hW.cell (p := ⟨Q, 0, none⟩) hQl9).trans a0; have q1 := (hW.cell (p := ⟨Q, 1, none⟩) hQl9).trans a1; have q2 := (hW.cell (p := ⟨Q, 2, none⟩) hQl9).trans a2; have u0 := (hW.cell (p := ⟨w6.heap.size, 0, none⟩) hUl9).trans b0; have u1 := (hW.cell (p := ⟨w6.heap.size, 1, none⟩) hUl9).trans b1; have u2 := (hW.cell (p := ⟨w6.heap.size, 2, none⟩) hUl9).trans b2; have eqi := fun W => HEQ.out W; (try simp only at *); go_simp; try with_reducible rfl)
               simp only [Act.put, List.setIfInBounds_toArray, List.set_cons_zero, List.set_cons_succ])
            | (refine wpGrowS_skip (by simp only [List.getElem?_toArray, List.getElem?_cons_succ, List.getElem?_cons_zero]; rfl) (by rfl) ?_
               simp only [Act.put, List.setIfInBounds_toArray, List.set_cons_zero, List.set_cons_succ]))
        refine wpGrowS_call (by simp only [List.getElem?_toArray, List.getElem?_cons_succ, List.getElem?_cons_zero]; rfl) (by rfl) fun K hK => ?_
        go_simp
        refine hK _ _ hS ?_
        clear hK K
        try simp only [Act.put, List.setIfInBounds_toArray, List.set_cons_zero, List.set_cons_succ]
        iterate 11
          (first
            | (refine wpGrowS_float (v := ?_) (by simp only [List.getElem?_toArray, List.getElem?_cons_succ, List.getElem?_cons_zero]; rfl) (by rfl) ?_ ?_
               rotate_left
               · (intro W hW; have t0 := (hW.cell (p := ⟨w.heap.size, 0, none⟩) hIl9).trans y0; have t1 := (hW.cell (p := ⟨w.heap.size, 1, none⟩) hIl9).trans y1; have t2 := (hW.cell (p := ⟨w.heap.size, 2, none⟩) hIl9).trans y2; have q0 := (hW.cell (p := ⟨Q, 0, none⟩) hQl9).trans a0; have q1 := (hW.cell (p := ⟨Q, 1, none⟩) hQl9).trans a1; have q2 := (hW.cell (p := ⟨Q, 2, none⟩) hQl9).trans a2; have u0 := (hW.cell (p := ⟨w6.heap.size, 0, none⟩) hUl9).trans b0; have u1 := (hW.cell (p := ⟨w6.heap.size, 1, none⟩) hUl9).trans b1; have u2 := (hW.cell (p := ⟨w6.heap.size, 2, none⟩) hUl9).trans b2; have eqi := fun W => HEQ.out W; (try simp only at *); go_simp; try with_reducible rfl)
               simp only [Act.put, List.setIfInBounds_toArray, List.set_cons_zero, List.set_cons_succ])
            | (refine wpGrowS_skip (by simp only [List.getElem?_toArray, List.getElem?_cons_succ, List.getElem?_cons_zero]; rfl) (by rfl) ?_
               simp only [Act.put, List.setIfInBounds_toArray, List.set_cons_zero, List.set_cons_succ]))
        refine wpGrowS_call (by simp only [List.getElem?_toArray, List.getElem?_cons_succ, List.getElem?_cons_zero]; rfl) (by rfl) fun K hK => ?_
        go_simp
        refine hK _ _ hS ?_
        clear hK K
        try simp only [Act.put, List.setIfInBounds_toArray, List.set_cons_zero, List.set_cons_succ]
        iterate 17
          (first
            | (refine wpGrowS_float (v := ?_) (by simp only [List.getElem?_toArray, List.getElem?_cons_succ, List.getElem?_cons_zero]; rfl) (by rfl) ?_ ?_
               rotate_left
               · (intro W hW; have t0 := (hW.cell (p := ⟨w.heap.size, 0, none⟩) hIl9).trans y0; have t1 := (hW.cell (p := ⟨w.heap.size, 1, none⟩) hIl9).trans y1; have t2 := (hW.cell (p := ⟨w.heap.size, 2, none⟩) hIl9).trans y2; have q0 := (hW.cell (p := ⟨Q, 0, none⟩) hQl9).trans a0; have q1 := (hW.cell (p := ⟨Q, 1, none⟩) hQl9).trans a1; have q2 := (hW.cell (p := ⟨Q, 2, none⟩) hQl9).trans a2; have u0 := (hW.cell (p := ⟨w6.heap.size, 0, none⟩) hUl9).trans b0; have u1 := (hW.cell (p := ⟨w6.heap.size, 1, none⟩) hUl9).trans b1; have u2 := (hW.cell (p := ⟨w6.heap.size, 2, none⟩) hUl9).trans b2; have eqi := fun W => HEQ.out W; (try simp only at *); go_simp; try with_reducible rfl)
               simp only [Act.put, List.setIfInBounds_toArray, List.set_cons_zero, List.set_cons_succ])
            | (refine wpGrowS_skip (by simp only [List.getElem?_toArray, List.getElem?_cons_succ, List.getElem?_cons_zero]; rfl) (by rfl) ?_
               simp only [Act.put, List.setIfInBounds_toArray, List.set_cons_zero, List.set_cons_succ]))
        refine wpGrowS_call (by simp only [List.getElem?_toArray, List.getElem?_cons_succ, List.getElem?_cons_zero]; rfl) (by rfl) fun K hK => ?_
        go_simp
        go_fit (HCP.out _ (beln HBK.out hS))
        rintro e wc9 ⟨vc9, ys9, rfl, hoc9, hmc9, hbc9⟩
        obtain ⟨Ac9, cc9, rfl, _, _, hrc9⟩ := hoc9.erow
        have hS9 := beln hS hbc9
        clear hoc9 hbc9
        go_simp
        refine hK _ _ hS9 ?_
        clear hK K
        try simp only [Act.put, List.setIfInBounds_toArray, List.set_cons_zero, List.set_cons_succ]
        refine wpGrowS_call (by simp only [List.getElem?_toArray, List.getElem?_cons_succ, List.getElem?_cons_zero]; rfl) (by rfl) fun K hK => ?_
        go_simp
        go_fit (HDE.out _ hmc9 _ _ _ hrc9)
        rintro e wd ⟨vd, rfl, hod, hbd⟩
        obtain ⟨Ad, cd, rfl, _, _, hrd⟩ := hod.row GId.len
        have hSd := beln hS9 hbd
        clear hod hbd hrc9
        go_simp
        refine hK _ _ hSd ?_
        clear hK K
        try simp only [Act.put, List.setIfInBounds_toArray, List.set_cons_zero, List.set_cons_succ]
        refine wpGrowS_call (by simp only [List.getElem?_toArray, List.getElem?_cons_succ, List.getElem?_cons_zero]; rfl) (by rfl) fun K hK => ?_
        go_simp
        go_fit (HDR.out _ (beln HBK.out hSd))
        rintro e we ⟨ve, rfl, hoe, hbe⟩
        obtain ⟨Ae, ce, rfl, _, _, hre⟩ := hoe.row GId.len
        have hSe := beln hSd hbe
        replace hrd := hrd.next hbe
        clear hoe hbe
        go_simp
        refine hK _ _ hSe ?_
        clear hK K
        try simp only [Act.put, List.setIfInBounds_toArray, List.set_cons_zero, List.set_cons_succ]
        refine wpGrowS_call (by simp only [List.getElem?_toArray, List.getElem?_cons_succ, List.getElem?_cons_zero]; rfl) (by rfl) fun K hK => ?_
        go_simp
        go_fit (HSI.out _ _ _ _ _ hrd hre)
        rintro e wf ⟨rfl, hbf⟩
        have hSf := beln hSe hbf
        clear hbf
        go_simp
        refine hK _ _ hSf ?_
        clear hK K
        try simp only [Act.put, List.setIfInBounds_toArray, List.set_cons_zero, List.set_cons_succ]
        iterate 2
          (first
            | (refine wpGrowS_float (v := ?_) (by simp only [List.getElem?_toArray, List.getElem?_cons_succ, List.getElem?_cons_zero]; rfl) (by rfl) ?_ ?_
               rotate_left
               · (intro W hW; have t0 := (hW.cell (p := ⟨w.heap.size, 0, none⟩) hIl9).trans y0; have t1 := (hW.cell (p := ⟨w.heap.size, 1, none⟩) hIl9).trans y1; have t2 := (hW.cell (p := ⟨w.heap.size, 2, none⟩) hIl9).trans y2; have q0 := (hW.cell (p := ⟨Q, 0, none⟩) hQl9).trans a0; have q1 := (hW.cell (p := ⟨Q, 1, none⟩) hQl9).trans a1; have q2 := (hW.cell (p := ⟨Q, 2, none⟩) hQl9).trans a2; have u0 := (hW.cell (p := ⟨w6.heap.size, 0, none⟩) hUl9).trans b0; have u1 := (hW.cell (p := ⟨w6.heap.size, 1, none⟩) hUl9).trans b1; have u2 := (hW.cell (p := ⟨w6.heap.size, 2, none⟩) hUl9).trans b2; have eqi := fun W => HEQ.out W; (try simp only at *); go_simp; try with_reducible rfl)
               simp only [Act.put, List.setIfInBounds_toArray, List.set_cons_zero, List.set_cons_succ])
            | (refine wpGrowS_skip (by simp only [List.getElem?_toArray, List.getElem?_cons_succ, List.getElem?_cons_zero]; rfl) (by rfl) ?_
               simp only [Act.put, List.setIfInBounds_toArray, List.set_cons_zero, List.set_cons_succ]))
        refine wpGrowS_call (by simp only [List.getElem?_toArray, List.getElem?_cons_succ, List.getElem?_cons_zero]; rfl) (by rfl) fun K hK => ?_
        go_simp
        go_fit (HAW.out _ (beln HBK.out hSf))
        rintro e wg ⟨rfl, hbg⟩
        have hSg := beln hSf hbg
        go_simp
        refine hK _ _ hSg ?_
        clear hK K
        try simp only [Act.put, List.setIfInBounds_toArray, List.set_cons_zero, List.set_cons_succ]
        iterate 2
          (first
            | (refine wpGrowS_float (v := ?_) (by simp only [List.getElem?_toArray, List.getElem?_cons_succ, List.getElem?_cons_zero]; rfl) (by rfl) ?_ ?_
               rotate_left
               · (intro W hW; have t0 := (hW.cell (p := ⟨w.heap.size, 0, none⟩) hIl9).trans y0; have t1 := (hW.cell (p := ⟨w.heap.size, 1, none⟩) hIl9).trans y1; have t2 := (hW.cell (p := ⟨w.heap.size, 2, none⟩) hIl9).trans y2; have q0 := (hW.cell (p := ⟨Q, 0, none⟩) hQl9).trans a0; have q1 := (hW.cell (p := ⟨Q, 1, none⟩) hQl9).trans a1; have q2 := (hW.cell (p := ⟨Q, 2, none⟩) hQl9).trans a2; have u0 := (hW.cell (p := ⟨w6.heap.size, 0, none⟩) hUl9).trans b0; have u1 := (hW.cell (p := ⟨w6.heap.size, 1, none⟩) hUl9).trans b1; have u2 := (hW.cell (p := ⟨w6.heap.size, 2, none⟩) hUl9).trans b2; have eqi := fun W => HEQ.out W; (try simp only at *); go_simp; try with_reducible rfl)
               simp only [Act.put, List.setIfInBounds_toArray, List.set_cons_zero, List.set_cons_succ])
            | (refine wpGrowS_skip (by simp only [List.getElem?_toArray, List.getElem?_cons_succ, List.getElem?_cons_zero]; rfl) (by rfl) ?_
               simp only [Act.put, List.setIfInBounds_toArray, List.set_cons_zero, List.set_cons_succ]))
        refine wpGrowS_nil ?_
        have HBF := Lib.hid (beln HBK.out hSg)
        clear hS hS9 hSd hSe hSf hSg
        go_wp2
        go_ret
        exact ⟨rfl, HBF.out⟩
      · subst hn1
        obtain ⟨n2, rfl⟩ := hn2
        clear HN1 HN2
        go_upto_region 9 with fail
        have hS : Below w8.heap.size w8 w8.drew := (Below.refl _ w8).drew
        refine wp_region_growS (S := fun W => Below w8.heap.size w8 W) [(0, true), (1, true), (2, true), (3, true), (4, true), (5, true), (6, true), (7, false), (8, true), (9, true), (10, true), (11, true), (12, true), (13, true), (14, true), (15, true), (16, true), (17, true), (18, true), (19, false), (20, true), (21, true), (22, true), (23, true), (24, true), (25, true), (26, true), (27, true), (28, true), (29, true), (30, true), (31, true), (32, true), (33, true), (35, true), (37, true), (38, true), (34, false), (36, false), (39, false), (40, false), (41, true), (42, true), (43, false), (44, true), (45, true)] (by kernel_rfl) (by kernel_rfl) (by kernel_rfl) (by kernel_rfl) (by intro c a d v w h; cases d <;> exact h) hS ?_
        iterate 7
          (first
            | (refine wpGrowS_float (v := ?_) (by simp only [List.getElem?_toArray, List.getElem?_cons_succ, List.getElem?_cons_zero]; rfl) (by rfl) ?_ ?_
               rotate_left
               · (intro W hW; have t0 := (hW.cell (p := ⟨w.heap.size, 0, none⟩) hIl9).trans y0; have t1 := (hW.cell (p := ⟨w.heap.size, 1, none⟩) hIl9).trans y1; have t2 := (hW.cell (p := ⟨w.heap.size, 2, none⟩) hIl9).trans y2; have q0 := (hW.cell (p := ⟨Q, 0, none⟩) hQl9).trans a0; have q1 := (hW.cell (p := ⟨Q, 1, none⟩) hQl9).trans a1; have q2 := (hW.cell (p := ⟨Q, 2, none⟩) hQl9).trans a2; have u0 := (hW.cell (p := ⟨w6.heap.size, 0, none⟩) hUl9).trans b0; have u1 := (hW.cell (p := ⟨w6.heap.size, 1, none⟩) hUl9).trans b1; have u2 := (hW.cell (p := ⟨w6.heap.size, 2, none⟩) hUl9).trans b2; have eqi := fun W => HEQ.out W; (try simp only at *); go_simp; try with_reducible rfl)
               simp only [Act.put, List.setIfInBounds_toArray, List.set_cons_zero, List.set_cons_succ])
            | (refine wpGrowS_skip (by simp only [List.getElem?_toArray, List.getElem?_cons_succ, List.getElem?_cons_zero]; rfl) (by rfl) ?_
               simp only [Act.put, List.setIfInBounds_toArray, List.set_cons_zero, List.set_cons_succ]))
        refine wpGrowS_call (by simp only [List.getElem?_toArray, List.getElem?_cons_succ, List.getElem?_cons_zero]; rfl) (by rfl) fun K hK => ?_
        go_simp
        refine hK _ _ hS ?_
        clear hK K
        try simp only [Act.put, List.setIfInBounds_toArray, List.set_cons_zero, List.set_cons_succ]
        iterate 11
          (first
            | (refine wpGrowS_float (v := ?_) (by simp only [List.getElem?_toArray, List.getElem?_cons_succ, List.getElem?_cons_zero]; rfl) (by rfl) ?_ ?_
               rotate_left
               · (intro W hW; have t0 := (hW.cell (p := ⟨w.heap.size, 0, none⟩) hIl9).trans y0; have t1 := (hW.cell (p := ⟨w.heap.size, 1, none⟩) hIl9).trans y1; have t2 := (hW.cell (p := ⟨w.heap.size, 2, none⟩) hIl9).trans y2; have q0 := (hW.cell (p := ⟨Q, 0, none⟩) hQl9).trans a0; have q1 := (hW.cell (p := ⟨Q, 1, none⟩) hQl9).trans a1; have q2 := (hW.cell (p := ⟨Q, 2, none⟩) hQl9).trans a2; have u0 := (hW.cell (p := ⟨w6.heap.size, 0, none⟩) hUl9).trans b0; have u1 := (hW.cell (p := ⟨w6.heap.size, 1, none⟩) hUl9).trans b1; have u2 := (hW.cell (p := ⟨w6.heap.size, 2, none⟩) hUl9).trans b2; have eqi := fun W => HEQ.out W; (try simp only at *); go_simp; try with_reducible rfl)
               simp only [Act.put, List.setIfInBounds_toArray, List.set_cons_zero, List.set_cons_succ])
            | (refine wpGrowS_skip (by simp only [List.getElem?_toArray, List.getElem?_cons_succ, List.getElem?_cons_zero]; rfl) (by rfl) ?_
               simp only [Act.put, List.setIfInBounds_toArray, List.set_cons_zero, List.set_cons_succ]))
        refine wpGrowS_call (by simp only [List.getElem?_toArray, List.getElem?_cons_succ, List.getElem?_cons_zero]; rfl) (by rfl) fun K hK => ?_
        go_simp
        refine hK _ _ hS ?_
        clear hK K
        try simp only [Act.put, List.setIfInBounds_toArray, List.set_cons_zero, List.set_cons_succ]
        iterate 17
          (first
            | (refine wpGrowS_float (v := ?_) (by simp only [List.getElem?_toArray, List.getElem?_cons_succ, List.getElem?_cons_zero]; rfl) (by rfl) ?_ ?_
               rotate_left
               · (intro W hW; have t0 := (hW.cell (p := ⟨w.heap.size, 0, none⟩) hIl9).trans y0; have t1 := (hW.cell (p := ⟨w.heap.size, 1, none⟩) hIl9).trans y1; have t2 := (hW.cell (p := ⟨w.heap.size, 2, none⟩) hIl9).trans y2; have q0 := (hW.cell (p := ⟨Q, 0, none⟩) hQl9).trans a0; have q1 := (hW.cell (p := ⟨Q, 1, none⟩) hQl9).trans a1; have q2 := (hW.cell (p := ⟨Q, 2, none⟩) hQl9).trans a2; have u0 := (hW.cell (p := ⟨w6.heap.size, 0, none⟩) hUl9).trans b0; have u1 := (hW.cell (p := ⟨w6.heap.size, 1, none⟩) hUl9).trans b1; have u2 := (hW.cell (p := ⟨w6.heap.size, 2, none⟩) hUl9).trans b2; have eqi := fun W => HEQ.out W; (try simp only at *); go_simp; try with_reducible rfl)
               simp only [Act.put, List.setIfInBounds_toArray, List.set_cons_zero, List.set_cons_succ])
            | (refine wpGrowS_skip (by simp only [List.getElem?_toArray, List.getElem?_cons_succ, List.getElem?_cons_zero]; rfl) (by rfl) ?_
               simp only [Act.put, List.setIfInBounds_toArray, List.set_cons_zero, List.set_cons_succ]))
        refine wpGrowS_call (by simp only [List.getElem?_toArray, List.getElem?_cons_succ, List.getElem?_cons_zero]; rfl) (by rfl) fun K hK => ?_
        go_simp
        go_fit (HCP.out _ (beln HBK.out hS))
        rintro e wc9 ⟨vc9, ys9, rfl, hoc9, hmc9, hbc9⟩
        obtain ⟨Ac9, cc9, rfl, _, _, hrc9⟩ := hoc9.erow
        have hS9 := beln hS hbc9
        clear hoc9 hbc9
        go_simp
        refine hK _ _ hS9 ?_
        clear hK K
        try simp only [Act.put, List.setIfInBounds_toArray, List.set_cons_zero, List.set_cons_succ]
        refine wpGrowS_call (by simp only [List.getElem?_toArray, List.getElem?_cons_succ, List.getElem?_cons_zero]; rfl) (by rfl) fun K hK => ?_
        go_simp
        go_fit (HDE.out _ hmc9 _ _ _ hrc9)
        rintro e wd ⟨vd, rfl, hod, hbd⟩
        obtain ⟨Ad, cd, rfl, _, _, hrd⟩ := hod.row GId.len
        have hSd := beln hS9 hbd
        clear hod hbd hrc9
        go_simp
        refine hK _ _ hSd ?_
        clear hK K
        try simp only [Act.put, List.setIfInBounds_toArray, List.set_cons_zero, List.set_cons_succ]
        refine wpGrowS_call (by simp only [List.getElem?_toArray, List.getElem?_cons_succ, List.getElem?_cons_zero]; rfl) (by rfl) fun K hK => ?_
        go_simp
        go_fit (HDR.out _ (beln HBK.out hSd))
        rintro e we ⟨ve, rfl, hoe, hbe⟩
        obtain ⟨Ae, ce, rfl, _, _, hre⟩ := hoe.row GId.len
        have hSe := beln hSd hbe
        replace hrd := hrd.next hbe
        clear hoe hbe
        go_simp
        refine hK _ _ hSe ?_
        clear hK K
        try simp only [Act.put, List.setIfInBounds_toArray, List.set_cons_zero, List.set_cons_succ]
        refine wpGrowS_call (by simp only [List.getElem?_toArray, List.getElem?_cons_succ, List.getElem?_cons_zero]; rfl) (by rfl) fun K hK => ?_
        go_simp
        go_fit (HSI.out _ _ _ _ _ hrd hre)
        rintro e wf ⟨rfl, hbf⟩
        have hSf := beln hSe hbf
        clear hbf
        go_simp
        refine hK _ _ hSf ?_
        clear hK K
        try simp only [Act.put, List.setIfInBounds_toArray, List.set_cons_zero, List.set_cons_succ]
        iterate 2
          (first
            | (refine wpGrowS_float (v := ?_) (by simp only [List.getElem?_toArray, List.getElem?_cons_succ, List.getElem?_cons_zero]; rfl) (by rfl) ?_ ?_
               rotate_left
               · (intro W hW; have t0 := (hW.cell (p := ⟨w.heap.size, 0, none⟩) hIl9).trans y0; have t1 := (hW.cell (p := ⟨w.heap.size, 1, none⟩) hIl9).trans y1; have t2 := (hW.cell (p := ⟨w.heap.size, 2, none⟩) hIl9).trans y2; have q0 := (hW.cell (p := ⟨Q, 0, none⟩) hQl9).trans a0; have q1 := (hW.cell (p := ⟨Q, 1, none⟩) hQl9).trans a1; have q2 := (hW.cell (p := ⟨Q, 2, none⟩) hQl9).trans a2; have u0 := (hW.cell (p := ⟨w6.heap.size, 0, none⟩) hUl9).trans b0; have u1 := (hW.cell (p := ⟨w6.heap.size, 1, none⟩) hUl9).trans b1; have u2 := (hW.cell (p := ⟨w6.heap.size, 2, none⟩) hUl9).trans b2; have eqi := fun W => HEQ.out W; (try simp only at *); go_simp; try with_reducible rfl)
               simp only [Act.put, List.setIfInBounds_toArray, List.set_cons_zero, List.set_cons_succ])
            | (refine wpGrowS_skip (by simp only [List.getElem?_toArray, List.getElem?_cons_succ, List.getElem?_cons_zero]; rfl) (by rfl) ?_
               simp only [Act.put, List.setIfInBounds_toArray, List.set_cons_zero, List.set_cons_succ]))
        refine wpGrowS_call (by simp only [List.getElem?_toArray, List.getElem?_cons_succ, List.getElem?_cons_zero]; rfl) (by rfl) fun K hK => ?_
        go_simp
        go_fit (HAW.out _ (beln HBK.out hSf))
        rintro e wg ⟨rfl, hbg⟩
        have hSg := beln hSf hbg
        go_simp
        refine hK _ _ hSg ?_
        clear hK K
        try simp only [Act.put, List.setIfInBounds_toArray, List.set_cons_zero, List.set_cons_succ]
        iterate 2
          (first
            | (refine wpGrowS_float (v := ?_) (by simp only [List.getElem?_toArray, List.getElem?_cons_succ, List.getElem?_cons_zero]; rfl) (by rfl) ?_ ?_
               rotate_left
               · (intro W hW; have t0 := (hW.cell (p := ⟨w.heap.size, 0, none⟩) hIl9).trans y0; have t1 := (hW.cell (p := ⟨w.heap.size, 1, none⟩) hIl9).trans y1; have t2 := (hW.cell (p := ⟨w.heap.size, 2, none⟩) hIl9).trans y2; have q0 := (hW.cell (p := ⟨Q, 0, none⟩) hQl9).trans a0; have q1 := (hW.cell (p := ⟨Q, 1, none⟩) hQl9).trans a1; have q2 := (hW.cell (p := ⟨Q, 2, none⟩) hQl9).trans a2; have u0 := (hW.cell (p := ⟨w6.heap.size, 0, none⟩) hUl9).trans b0; have u1 := (hW.cell (p := ⟨w6.heap.size, 1, none⟩) hUl9).trans b1; have u2 := (hW.cell (p := ⟨w6.heap.size, 2, none⟩) hUl9).trans b2; have eqi := fun W => HEQ.out W; (try simp only at *); go_simp; try with_reducible rfl)
               simp only [Act.put, List.setIfInBounds_toArray, List.set_cons_zero, List.set_cons_succ])
            | (refine wpGrowS_skip (by simp only [List.getElem?_toArray, List.getElem?_cons_succ, List.getElem?_cons_zero]; rfl) (by rfl) ?_
               simp only [Act.put, List.setIfInBounds_toArray, List.set_cons_zero, List.set_cons_succ]))
        refine wpGrowS_nil ?_
        have HBF := Lib.hid (beln HBK.out hSg)
        clear hS hS9 hSd hSe hSf hSg
        go_wp2
        go_ret
        exact ⟨rfl, HBF.out⟩
    · rcases HN2.out with hn2 | hn2
      · obtain ⟨n1, rfl⟩ := hn1
        subst hn2
        clear HN1 HN2
        go_upto_region 9 with fail
        have hS : Below w8.heap.size w8 w8.drew := (Below.refl _ w8).drew
        refine wp_region_growS (S := fun W => Below w8.heap.size w8 W) [(0, true), (1, true), (2, true), (3, true), (4, true), (5, true), (6, true), (7, false), (8, true), (9, true), (10, true), (11, true), (12, true), (13, true), (14, true), (15, true), (16, true), (17, true), (18, true), (19, false), (20, true), (21, true), (22, true), (23, true), (24, true), (25, true), (26, true), (27, true), (28, true), (29, true), (30, true), (31, true), (32, true), (33, true), (35, true), (37, true), (38, true), (34, false), (36, false), (39, false), (40, false), (41, true), (42, true), (43, false), (44, true), (45, true)] (by kernel_rfl) (by kernel_rfl) (by kernel_rfl) (by kernel_rfl) (by intro c a d v w h; cases d <;> exact h) hS ?_
        iterate 7
          (first
            | (refine wpGrowS_float (v := ?_) (by simp only [List.getElem?_toArray, List.getElem?_cons_succ, List.getElem?_cons_zero]; rfl) (by rfl) ?_ ?_
               rotate_left
               · (intro W hW; have t0 := (hW.cell (p := ⟨w.heap.size, 0, none⟩) hIl9).trans y0; have t1 := (hW.cell (p := ⟨w.heap.size, 1, none⟩) hIl9).trans y1; have t2 := (hW.cell (p := ⟨w.heap.size, 2, none⟩) hIl9).trans y2; have q0 := (hW.cell (p := ⟨Q, 0, none⟩) hQl9).trans a0; have q1 := (hW.cell (p := ⟨Q, 1, none⟩) hQl9).trans a1; have q2 := (hW.cell (p := ⟨Q, 2, none⟩) hQl9).trans a2; have u0 := (hW.cell (p := ⟨w6.heap.size, 0, none⟩) hUl9).trans b0; have u1 := (hW.cell (p := ⟨w6.heap.size, 1, none⟩) hUl9).trans b1; have u2 := (hW.cell (p := ⟨w6.heap.size, 2, none⟩) hUl9).trans b2; have eqi := fun W => HEQ.out W; (try simp only at *); go_simp; try with_reducible rfl)
               simp only [Act.put, List.setIfInBounds_toArray, List.set_cons_zero, List.set_cons_succ])
            | (refine wpGrowS_skip (by simp only [List.getElem?_toArray, List.getElem?_cons_succ, List.getElem?_cons_zero]; rfl) (by rfl) ?_
               simp only [Act.put, List.setIfInBounds_toArray, List.set_cons_zero, List.set_cons_succ]))
        refine wpGrowS_call (by simp only [List.getElem?_toArray, List.getElem?_cons_succ, List.getElem?_cons_zero]; rfl) (by rfl) fun K hK => ?_
        go_simp
        refine hK _ _ hS ?_
        clear hK K
        try simp only [Act.put, List.setIfInBounds_toArray, List.set_cons_zero, List.set_cons_succ]
        iterate 11
          (first
            | (refine wpGrowS_float (v := ?_) (by simp only [List.getElem?_toArray, List.getElem?_cons_succ, List.getElem?_cons_zero]; rfl) (by rfl) ?_ ?_
               rotate_left
               · (intro W hW; have t0 := (hW.cell (p := ⟨w.heap.size, 0, none⟩) hIl9).trans y0; have t1 := (hW.cell (p := ⟨w.heap.size, 1, none⟩) hIl9).trans y1; have t2 := (hW.cell (p := ⟨w.heap.size, 2, none⟩) hIl9).trans y2; have q0 := (hW.cell (p := ⟨Q, 0, none⟩) hQl9).trans a0; have q1 := (hW.cell (p := ⟨Q, 1, none⟩) hQl9).trans a1; have q2 := (hW.cell (p := ⟨Q, 2, none⟩) hQl9).trans a2; have u0 := (hW.cell (p := ⟨w6.heap.size, 0, none⟩) hUl9).trans b0; have u1 := (hW.cell (p := ⟨w6.heap.size, 1, none⟩) hUl9).trans b1; have u2 := (hW.cell (p := ⟨w6.heap.size, 2, none⟩) hUl9).trans b2; have eqi := fun W => HEQ.out W; (try simp only at *); go_simp; try with_reducible rfl)
               simp only [Act.put, List.setIfInBounds_toArray, List.set_cons_zero, List.set_cons_succ])
            | (refine wpGrowS_skip (by simp only [List.getElem?_toArray, List.getElem?_cons_succ, List.getElem?_cons_zero]; rfl) (by rfl) ?_
               simp only [Act.put, List.setIfInBounds_toArray, List.set_cons_zero, List.set_cons_succ]))
        refine wpGrowS_call (by simp only [List.getElem?_toArray, List.getElem?_cons_succ, List.getElem?_cons_zero]; rfl) (by rfl) fun K hK => ?_
        go_simp
        refine hK _ _ hS ?_
        clear hK K
        try simp only [Act.put, List.setIfInBounds_toArray, List.set_cons_zero, List.set_cons_succ]
        iterate 17
          (first
            | (refine wpGrowS_float (v := ?_) (by simp only [List.getElem?_toArray, List.getElem?_cons_succ, List.getElem?_cons_zero]; rfl) (by rfl) ?_ ?_
               rotate_left
               · (intro W hW; have t0 := (hW.cell (p := ⟨w.heap.size, 0, none⟩) hIl9).trans y0; have t1 := (hW.cell (p := ⟨w.heap.size, 1, none⟩) hIl9).trans y1; have t2 := (hW.cell (p := ⟨w.heap.size, 2, none⟩) hIl9).trans y2; have q0 := (hW.cell (p := ⟨Q, 0, none⟩) hQl9).trans a0; have q1 := (hW.cell (p := ⟨Q, 1, none⟩) hQl9).trans a1; have q2 := (hW.cell (p := ⟨Q, 2, none⟩) hQl9).trans a2; have u0 := (hW.cell (p := ⟨w6.heap.size, 0, none⟩) hUl9).trans b0; have u1 := (hW.cell (p := ⟨w6.heap.size, 1, none⟩) hUl9).trans b1; have u2 := (hW.cell (p := ⟨w6.heap.size, 2, none⟩) hUl9).trans b2; have eqi := fun W => HEQ.out W; (try simp only at *); go_simp; try with_reducible rfl)
               simp only [Act.put, List.setIfInBounds_toArray, List.set_cons_zero, List.set_cons_succ])
            | (refine wpGrowS_skip (by simp only [List.getElem?_toArray, List.getElem?_cons_succ, List.getElem?_cons_zero]; rfl) (by rfl) ?_
               simp only [Act.put, List.setIfInBounds_toArray, List.set_cons_zero, List.set_cons_succ]))
        refine wpGrowS_call (by simp only [List.getElem?_toArray, List.getElem?_cons_succ, List.getElem?_cons_zero]; rfl) (by rfl) fun K hK => ?_
        go_simp
        go_fit (HCP.out _ (beln HBK.out hS))
        rintro e wc9 ⟨vc9, ys9, rfl, hoc9, hmc9, hbc9⟩
        obtain ⟨Ac9, cc9, rfl, _, _, hrc9⟩ := hoc9.erow
        have hS9 := beln hS hbc9
        clear hoc9 hbc9
        go_simp
        refine hK _ _ hS9 ?_
        clear hK K
        try simp only [Act.put, List.setIfInBounds_toArray, List.set_cons_zero, List.set_cons_succ]
        refine wpGrowS_call (by simp only [List.getElem?_toArray, List.getElem?_cons_succ, List.getElem?_cons_zero]; rfl) (by rfl) fun K hK => ?_
        go_simp
        go_fit (HDE.out _ hmc9 _ _ _ hrc9)
        rintro e wd ⟨vd, rfl, hod, hbd⟩
        obtain ⟨Ad, cd, rfl, _, _, hrd⟩ := hod.row GId.len
        have hSd := beln hS9 hbd
        clear hod hbd hrc9
        go_simp
        refine hK _ _ hSd ?_
        clear hK K
        try simp only [Act.put, List.setIfInBounds_toArray, List.set_cons_zero, List.set_cons_succ]
        refine wpGrowS_call (by simp only [List.getElem?_toArray, List.getElem?_cons_succ, List.getElem?_cons_zero]; rfl) (by rfl) fun K hK => ?_
        go_simp
        go_fit (HDR.out _ (beln HBK.out hSd))
        rintro e we ⟨ve, rfl, hoe, hbe⟩
        obtain ⟨Ae, ce, rfl, _, _, hre⟩ := hoe.row GId.len
        have hSe := beln hSd hbe
        replace hrd := hrd.next hbe
        clear hoe hbe
        go_simp
        refine hK _ _ hSe ?_
        clear hK K
        try simp only [Act.put, List.setIfInBounds_toArray, List.set_cons_zero, List.set_cons_succ]
        refine wpGrowS_call (by simp only [List.getElem?_toArray, List.getElem?_cons_succ, List.getElem?_cons_zero]; rfl) (by rfl) fun K hK => ?_
        go_simp
        go_fit (HSI.out _ _ _ _ _ hrd hre)
        rintro e wf ⟨rfl, hbf⟩
        have hSf := beln hSe hbf
        clear hbf
        go_simp
        refine hK _ _ hSf ?_
        clear hK K
        try simp only [Act.put, List.setIfInBounds_toArray, List.set_cons_zero, List.set_cons_succ]
        iterate 2
          (first
            | (refine wpGrowS_float (v := ?_) (by simp only [List.getElem?_toArray, List.getElem?_cons_succ, List.getElem?_cons_zero]; rfl) (by rfl) ?_ ?_
               rotate_left
               · (intro W hW; have t0 := (hW.cell (p := ⟨w.heap.size, 0, none⟩) hIl9).trans y0; have t1 := (hW.cell (p := ⟨w.heap.size, 1, none⟩) hIl9).trans y1; have t2 := (hW.cell (p := ⟨w.heap.size, 2, none⟩) hIl9).trans y2; have q0 := (hW.cell (p := ⟨Q, 0, none⟩) hQl9).trans a0; have q1 := (hW.cell (p := ⟨Q, 1, none⟩) hQl9).trans a1; have q2 := (hW.cell (p := ⟨Q, 2, none⟩) hQl9).trans a2; have u0 := (hW.cell (p := ⟨w6.heap.size, 0, none⟩) hUl9).trans b0; have u1 := (hW.cell (p := ⟨w6.heap.size, 1, none⟩) hUl9).trans b1; have u2 := (hW.cell (p := ⟨w6.heap.size, 2, none⟩) hUl9).trans b2; have eqi := fun W => HEQ.out W; (try simp only at *); go_simp; try with_reducible rfl)
               simp only [Act.put, List.setIfInBounds_toArray, List.set_cons_zero, List.set_cons_succ])
            | (refine wpGrowS_skip (by simp only [List.getElem?_toArray, List.getElem?_cons_succ, List.getElem?_cons_zero]; rfl) (by rfl) ?_
               simp only [Act.put, List.setIfInBounds_toArray, List.set_cons_zero, List.set_cons_succ]))
        refine wpGrowS_call (by simp only [List.getElem?_toArray, List.getElem?_cons_succ, List.getElem?_cons_zero]; rfl) (by rfl) fun K hK => ?_
        go_simp
        go_fit (HAW.out _ (beln HBK.out hSf))
        rintro e wg ⟨rfl, hbg⟩
        have hSg := beln hSf hbg
        go_simp
        refine hK _ _ hSg ?_
        clear hK K
        try simp only [Act.put, List.setIfInBounds_toArray, List.set_cons_zero, List.set_cons_succ]
        iterate 2
          (first
            | (refine wpGrowS_float (v := ?_) (by simp only [List.getElem?_toArray, List.getElem?_cons_succ, List.getElem?_cons_zero]; rfl) (by rfl) ?_ ?_
               rotate_left
               · (intro W hW; have t0 := (hW.cell (p := ⟨w.heap.size, 0, none⟩) hIl9).trans y0; have t1 := (hW.cell (p := ⟨w.heap.size, 1, none⟩) hIl9).trans y1; have t2 := (hW.cell (p := ⟨w.heap.size, 2, none⟩) hIl9).trans y2; have q0 := (hW.cell (p := ⟨Q, 0, none⟩) hQl9).trans a0; have q1 := (hW.cell (p := ⟨Q, 1, none⟩) hQl9).trans a1; have q2 := (hW.cell (p := ⟨Q, 2, none⟩) hQl9).trans a2; have u0 := (hW.cell (p := ⟨w6.heap.size, 0, none⟩) hUl9).trans b0; have u1 := (hW.cell (p := ⟨w6.heap.size, 1, none⟩) hUl9).trans b1; have u2 := (hW.cell (p := ⟨w6.heap.size, 2, none⟩) hUl9).trans b2; have eqi := fun W => HEQ.out W; (try simp only at *); go_simp; try with_reducible rfl)
               simp only [Act.put, List.setIfInBounds_toArray, List.set_cons_zero, List.set_cons_succ])
            | (refine wpGrowS_skip (by simp only [List.getElem?_toArray, List.getElem?_cons_succ, List.getElem?_cons_zero]; rfl) (by rfl) ?_
               simp only [Act.put, List.setIfInBounds_toArray, List.set_cons_zero, List.set_cons_succ]))
        refine wpGrowS_nil ?_
        have HBF := Lib.hid (beln HBK.out hSg)
        clear hS hS9 hSd hSe hSf hSg
        go_wp2
        go_ret
        exact ⟨rfl, HBF.out⟩
      · obtain ⟨n1, rfl⟩ := hn1
        obtain ⟨n2, rfl⟩ := hn2
        clear HN1 HN2
        go_upto_region 9 with fail
        have hS : Below w8.heap.size w8 w8.drew := (Below.refl _ w8).drew
        refine wp_region_growS (S := fun W => Below w8.heap.size w8 W) [(0, true), (1, true), (2, true), (3, true), (4, true), (5, true), (6, true), (7, false), (8, true), (9, true), (10, true), (11, true), (12, true), (13, true), (14, true), (15, true), (16, true), (17, true), (18, true), (19, false), (20, true), (21, true), (22, true), (23, true), (24, true), (25, true), (26, true), (27, true), (28, true), (29, true), (30, true), (31, true), (32, true), (33, true), (35, true), (37, true), (38, true), (34, false), (36, false), (39, false), (40, false), (41, true), (42, true), (43, false), (44, true), (45, true)] (by kernel_rfl) (by kernel_rfl) (by kernel_rfl) (by kernel_rfl) (by intro c a d v w h; cases d <;> exact h) hS ?_
        iterate 7
          (first
            | (refine wpGrowS_float (v := ?_) (by simp only [List.getElem?_toArray, List.getElem?_cons_succ, List.getElem?_cons_zero]; rfl) (by rfl) ?_ ?_
               rotate_left
               · (intro W hW; have t0 := (hW.cell (p := ⟨w.heap.size, 0, none⟩) hIl9).trans y0; have t1 := (hW.cell (p := ⟨w.heap.size, 1, none⟩) hIl9).trans y1; have t2 := (hW.cell (p := ⟨w.heap.size, 2, none⟩) hIl9).trans y2; have q0 := (hW.cell (p := ⟨Q, 0, none⟩) hQl9).trans a0; have q1 := (hW.cell (p := ⟨Q, 1, none⟩) hQl9).trans a1; have q2 := (hW.cell (p := ⟨Q, 2, none⟩) hQl9).trans a2; have u0 := (hW.cell (p := ⟨w6.heap.size, 0, none⟩) hUl9).trans b0; have u1 := (hW.cell (p := ⟨w6.heap.size, 1, none⟩) hUl9).trans b1; have u2 := (hW.cell (p := ⟨w6.heap.size, 2, none⟩) hUl9).trans b2; have eqi := fun W => HEQ.out W; (try simp only at *); go_simp; try with_reducible rfl)
               simp only [Act.put, List.setIfInBounds_toArray, List.set_cons_zero, List.set_cons_succ])
            | (refine wpGrowS_skip (by simp only [List.getElem?_toArray, List.getElem?_cons_succ, List.getElem?_cons_zero]; rfl) (by rfl) ?_
               simp only [Act.put, List.setIfInBounds_toArray, List.set_cons_zero, List.set_cons_succ]))
        refine wpGrowS_call (by simp only [List.getElem?_toArray, List.getElem?_cons_succ, List.getElem?_cons_zero]; rfl) (by rfl) fun K hK => ?_
        go_simp
        refine hK _ _ hS ?_
        clear hK K
        try simp only [Act.put, List.setIfInBounds_toArray, List.set_cons_zero, List.set_cons_succ]
        iterate 11
          (first
            | (refine wpGrowS_float (v := ?_) (by simp only [List.getElem?_toArray, List.getElem?_cons_succ, List.getElem?_cons_zero]; rfl) (by rfl) ?_ ?_
               rotate_left
               · (intro W hW; have t0 := (hW.cell (p := ⟨w.heap.size, 0, none⟩) hIl9).trans y0; have t1 := (hW.cell (p := ⟨w.heap.size, 1, none⟩) hIl9).trans y1; have t2 := (hW.cell (p := ⟨w.heap.size, 2, none⟩) hIl9).trans y2; have q0 := (hW.cell (p := ⟨Q, 0, none⟩) hQl9).trans a0; have q1 := (hW.cell (p := ⟨Q, 1, none⟩) hQl9).trans a1; have q2 := (hW.cell (p := ⟨Q, 2, none⟩) hQl9).trans a2; have u0 := (hW.cell (p := ⟨w6.heap.size, 0, none⟩) hUl9).trans b0; have u1 := (hW.cell (p := ⟨w6.heap.size, 1, none⟩) hUl9).trans b1; have u2 := (hW.cell (p := ⟨w6.heap.size, 2, none⟩) hUl9).trans b2; have eqi := fun W => HEQ.out W; (try simp only at *); go_simp; try with_reducible rfl)
               simp only [Act.put, List.setIfInBounds_toArray, List.set_cons_zero, List.set_cons_succ])
            | (refine wpGrowS_skip (by simp only [List.getElem?_toArray, List.getElem?_cons_succ, List.getElem?_cons_zero]; rfl) (by rfl) ?_
               simp only [Act.put, List.setIfInBounds_toArray, List.set_cons_zero, List.set_cons_succ]))
        refine wpGrowS_call (by simp only [List.getElem?_toArray, List.getElem?_cons_succ, List.getElem?_cons_zero]; rfl) (by rfl) fun K hK => ?_
        go_simp
        refine hK _ _ hS ?_
        clear hK K
        try simp only [Act.put, List.setIfInBounds_toArray, List.set_cons_zero, List.set_cons_succ]
        iterate 17
          (first
            | (refine wpGrowS_float (v := ?_) (by simp only [List.getElem?_toArray, List.getElem?_cons_succ, List.getElem?_cons_zero]; rfl) (by rfl) ?_ ?_
               rotate_left
               · (intro W hW; have t0 := (hW.cell (p := ⟨w.heap.size, 0, none⟩) hIl9).trans y0; have t1 := (hW.cell (p := ⟨w.heap.size, 1, none⟩) hIl9).trans y1; have t2 := (hW.cell (p := ⟨w.heap.size, 2, none⟩) hIl9).trans y2; have q0 := (hW.cell (p := ⟨Q, 0, none⟩) hQl9).trans a0; have q1 := (hW.cell (p := ⟨Q, 1, none⟩) hQl9).trans a1; have q2 := (hW.cell (p := ⟨Q, 2, none⟩) hQl9).trans a2; have u0 := (hW.cell (p := ⟨w6.heap.size, 0, none⟩) hUl9).trans b0; have u1 := (hW.cell (p := ⟨w6.heap.size, 1, none⟩) hUl9).trans b1; have u2 := (hW.cell (p := ⟨w6.heap.size, 2, none⟩) hUl9).trans b2; have eqi := fun W => HEQ.out W; (try simp only at *); go_simp; try with_reducible rfl)
               simp only [Act.put, List.setIfInBounds_toArray, List.set_cons_zero, List.set_cons_succ])
            | (refine wpGrowS_skip (by simp only [List.getElem?_toArray, List.getElem?_cons_succ, List.getElem?_cons_zero]; rfl) (by rfl) ?_
               simp only [Act.put, List.setIfInBounds_toArray, List.set_cons_zero, List.set_cons_succ]))
        refine wpGrowS_call (by simp only [List.getElem?_toArray, List.getElem?_cons_succ, List.getElem?_cons_zero]; rfl) (by rfl) fun K hK => ?_
        go_simp
        go_fit (HCP.out _ (beln HBK.out hS))
        rintro e wc9 ⟨vc9, ys9, rfl, hoc9, hmc9, hbc9⟩
        obtain ⟨Ac9, cc9, rfl, _, _, hrc9⟩ := hoc9.erow
        have hS9 := beln hS hbc9
        clear hoc9 hbc9
        go_simp
        refine hK _ _ hS9 ?_
        clear hK K
        try simp only [Act.put, List.setIfInBounds_toArray, List.set_cons_zero, List.set_cons_succ]
        refine wpGrowS_call (by simp only [List.getElem?_toArray, List.getElem?_cons_succ, List.getElem?_cons_zero]; rfl) (by rfl) fun K hK => ?_
        go_simp
        go_fit (HDE.out _ hmc9 _ _ _ hrc9)
        rintro e wd ⟨vd, rfl, hod, hbd⟩
        obtain ⟨Ad, cd, rfl, _, _, hrd⟩ := hod.row GId.len
        have hSd := beln hS9 hbd
        clear hod hbd hrc9
        go_simp
        refine hK _ _ hSd ?_
        clear hK K
        try simp only [Act.put, List.setIfInBounds_toArray, List.set_cons_zero, List.set_cons_succ]
        refine wpGrowS_call (by simp only [List.getElem?_toArray, List.getElem?_cons_succ, List.getElem?_cons_zero]; rfl) (by rfl) fun K hK => ?_
        go_simp
        go_fit (HDR.out _ (beln HBK.out hSd))
        rintro e we ⟨ve, rfl, hoe, hbe⟩
        obtain ⟨Ae, ce, rfl, _, _, hre⟩ := hoe.row GId.len
        have hSe := beln hSd hbe
        replace hrd := hrd.next hbe
        clear hoe hbe
        go_simp
        refine hK _ _ hSe ?_
        clear hK K
        try simp only [Act.put, List.setIfInBounds_toArray, List.set_cons_zero, List.set_cons_succ]
        refine wpGrowS_call (by simp only [List.getElem?_toArray, List.getElem?_cons_succ, List.getElem?_cons_zero]; rfl) (by rfl) fun K hK => ?_
        go_simp
        go_fit (HSI.out _ _ _ _ _ hrd hre)
        rintro e wf ⟨rfl, hbf⟩
        have hSf := beln hSe hbf
        clear hbf
        go_simp
        refine hK _ _ hSf ?_
        clear hK K
        try simp only [Act.put, List.setIfInBounds_toArray, List.set_cons_zero, List.set_cons_succ]
        iterate 2
          (first
            | (refine wpGrowS_float (v := ?_) (by simp only [List.getElem?_toArray, List.getElem?_cons_succ, List.getElem?_cons_zero]; rfl) (by rfl) ?_ ?_
               rotate_left
               · (intro W hW; have t0 := (hW.cell (p := ⟨w.heap.size, 0, none⟩) hIl9).trans y0; have t1 := (hW.cell (p := ⟨w.heap.size, 1, none⟩) hIl9).trans y1; have t2 := (hW.cell (p := ⟨w.heap.size, 2, none⟩) hIl9).trans y2; have q0 := (hW.cell (p := ⟨Q, 0, none⟩) hQl9).trans a0; have q1 := (hW.cell (p := ⟨Q, 1, none⟩) hQl9).trans a1; have q2 := (hW.cell (p := ⟨Q, 2, none⟩) hQl9).trans a2; have u0 := (hW.cell (p := ⟨w6.heap.size, 0, none⟩) hUl9).trans b0; have u1 := (hW.cell (p := ⟨w6.heap.size, 1, none⟩) hUl9).trans b1; have u2 := (hW.cell (p := ⟨w6.heap.size, 2, none⟩) hUl9).trans b2; have eqi := fun W => HEQ.out W; (try simp only at *); go_simp; try with_reducible rfl)
               simp only [Act.put, List.setIfInBounds_toArray, List.set_cons_zero, List.set_cons_succ])
            | (refine wpGrowS_skip (by simp only [List.getElem?_toArray, List.getElem?_cons_succ, List.getElem?_cons_zero]; rfl) (by rfl) ?_
               simp only [Act.put, List.setIfInBounds_toArray, List.set_cons_zero, List.set_cons_succ]))
        refine wpGrowS_call (by simp only [List.getElem?_toArray, List.getElem?_cons_succ, List.getElem?_cons_zero]; rfl) (by rfl) fun K hK => ?_
        go_simp
        go_fit (HAW.out _ (beln HBK.out hSf))
        rintro e wg ⟨rfl, hbg⟩
        have hSg := beln hSf hbg
        go_simp
        refine hK _ _ hSg ?_
        clear hK K
        try simp only [Act.put, List.setIfInBounds_toArray, List.set_cons_zero, List.set_cons_succ]
        iterate 2
          (first
            | (refine wpGrowS_float (v := ?_) (by simp only [List.getElem?_toArray, List.getElem?_cons_succ, List.getElem?_cons_zero]; rfl) (by rfl) ?_ ?_
               rotate_left
               · (intro W hW; have t0 := (hW.cell (p := ⟨w.heap.size, 0, none⟩) hIl9).trans y0; have t1 := (hW.cell (p := ⟨w.heap.size, 1, none⟩) hIl9).trans y1; have t2 := (hW.cell (p := ⟨w.heap.size, 2, none⟩) hIl9).trans y2; have q0 := (hW.cell (p := ⟨Q, 0, none⟩) hQl9).trans a0; have q1 := (hW.cell (p := ⟨Q, 1, none⟩) hQl9).trans a1; have q2 := (hW.cell (p := ⟨Q, 2, none⟩) hQl9).trans a2; have u0 := (hW.cell (p := ⟨w6.heap.size, 0, none⟩) hUl9).trans b0; have u1 := (hW.cell (p := ⟨w6.heap.size, 1, none⟩) hUl9).trans b1; have u2 := (hW.cell (p := ⟨w6.heap.size, 2, none⟩) hUl9).trans b2; have eqi := fun W => HEQ.out W; (try simp only at *); go_simp; try with_reducible rfl)
               simp only [Act.put, List.setIfInBounds_toArray, List.set_cons_zero, List.set_cons_succ])
            | (refine wpGrowS_skip (by simp only [List.getElem?_toArray, List.getElem?_cons_succ, List.getElem?_cons_zero]; rfl) (by rfl) ?_
               simp only [Act.put, List.setIfInBounds_toArray, List.set_cons_zero, List.set_cons_succ]))
        refine wpGrowS_nil ?_
        have HBF := Lib.hid (beln HBK.out hSg)
        clear hS hS9 hSd hSe hSf hSg
        go_wp2
        go_ret
        exact ⟨rfl, HBF.out⟩
end Go.Proofs.YtndppbfdcceflaaGreatDoor


namespace Go.Proofs.YtndppbfdcceflaaGreatDoor
open Go.ChangeShapes Go.WideShapes Go.RowKit

def IdRow (w : World) (B : Nat) (A : Option Addr) (len cap : Nat) (l : List GId) : Prop := l.length = len ∧ len ≤ cap ∧ GRow GId.cells 3 w B A l
section
variable {H : Type} {enc : TypeId × Value → H} {W : World} {base : Nat} {held : Bool}
set_option maxRecDepth 50000 in
theorem id_open {n : Nat} {cs : List Value} {x : DataW H × List MemPlace} (h : DataW.trod enc Tryz.prog W base (fun _ => true) held n 25 cs = some x) : ∃ r : GId, cs = r.cells := by
  obtain ⟨ys, m, _, hxy, hlen, hyl, hf⟩ := DataW.trod_struct Tryz.underlying25 h
  have c0 : Tryz.prog.cellsOf 25 = 3 := by kernel_rfl
  rw [c0] at hlen
  match cs, hlen with
  | [v0, v1, v2], _ =>
    have n1 : Tryz.prog.cellsOf 3 = 1 := by kernel_rfl
    have h0 := hf 0 _ rfl
    have h1 := hf 1 _ rfl
    have h2 := hf 2 _ rfl
    have yl : ys.length = 3 := hyl
    match ys, yl with
    | [y0, y1, y2], _ =>
      simp [n1] at h0
      simp [n1] at h1
      simp [n1] at h2
      obtain ⟨a0, e0, _, _⟩ := DataW.trod_int Tryz.underlying3 h0
      obtain ⟨a1, e1, _, _⟩ := DataW.trod_int Tryz.underlying3 h1
      obtain ⟨a2, e2, _, _⟩ := DataW.trod_int Tryz.underlying3 h2
      simp at e0 e1 e2
      subst e0 e1 e2
      exact ⟨⟨a0, a1, a2⟩, rfl⟩
set_option maxRecDepth 50000 in
theorem IsId_open {v : Value} {d : DataW H} {p : List MemPlace} {r : Reach} {b : Nat} (hv : Value.okWide Tryz.prog W r b 25 v) (h : DataW.Trod enc Tryz.prog W base (fun _ => true) held 25 v d p) : ∃ x : GId, v = x.val := by
  obtain ⟨cs, rfl, _⟩ := okWide_struct Tryz.underlying25 hv
  obtain ⟨fuel, hf⟩ := h
  obtain ⟨x, hcs⟩ := id_open hf
  refine ⟨x, ?_⟩
  have h2 : cs.toList = x.cells := hcs
  obtain ⟨cl⟩ := cs
  simp at h2
  rw [h2]; rfl
set_option maxRecDepth 50000 in
theorem cap_open {n : Nat} {cs : List Value} {x : DataW H × List MemPlace} (h : DataW.trod enc Tryz.prog W base (fun _ => true) held n 28 cs = some x) : ∃ c : GC, cs = c.cells := by
  obtain ⟨ys, m, _, hxy, hlen, hyl, hf⟩ := DataW.trod_struct Tryz.underlying28 h
  have c0 : Tryz.prog.cellsOf 28 = 7 := by kernel_rfl
  rw [c0] at hlen
  match cs, hlen with
  | [v0, v1, v2, v3, v4, v5, v6], _ =>
    have n1 : Tryz.prog.cellsOf 3 = 1 := by kernel_rfl
    have n2 : Tryz.prog.cellsOf 4 = 1 := by kernel_rfl
    have h0 := hf 0 _ rfl
    have h1 := hf 1 _ rfl
    have h2 := hf 2 _ rfl
    have h3 := hf 3 _ rfl
    have h4 := hf 4 _ rfl
    have h5 := hf 5 _ rfl
    have h6 := hf 6 _ rfl
    have yl : ys.length = 7 := hyl
    match ys, yl with
    | [y0, y1, y2, y3, y4, y5, y6], _ =>
      simp [n1] at h0
      simp [n1] at h1
      simp [n1] at h2
      simp [n1] at h3
      simp [n1] at h4
      simp [n1] at h5
      simp [n2] at h6
      obtain ⟨a0, e0, _, _⟩ := DataW.trod_int Tryz.underlying3 h0
      obtain ⟨a1, e1, _, _⟩ := DataW.trod_int Tryz.underlying3 h1
      obtain ⟨a2, e2, _, _⟩ := DataW.trod_int Tryz.underlying3 h2
      obtain ⟨a3, e3, _, _⟩ := DataW.trod_int Tryz.underlying3 h3
      obtain ⟨a4, e4, _, _⟩ := DataW.trod_int Tryz.underlying3 h4
      obtain ⟨a5, e5, _, _⟩ := DataW.trod_int Tryz.underlying3 h5
      obtain ⟨a6, e6, _⟩ := DataW.trod_bool Tryz.underlying4 h6
      simp at e0 e1 e2 e3 e4 e5 e6
      subst e0 e1 e2 e3 e4 e5 e6
      exact ⟨⟨a0, a1, a2, a3, a4, a5, a6⟩, rfl⟩
set_option maxRecDepth 50000 in
theorem IsCap_open {v : Value} {d : DataW H} {p : List MemPlace} {r : Reach} {b : Nat} (hv : Value.okWide Tryz.prog W r b 28 v) (h : DataW.Trod enc Tryz.prog W base (fun _ => true) held 28 v d p) : ∃ x : GC, v = x.val := by
  obtain ⟨cs, rfl, _⟩ := okWide_struct Tryz.underlying28 hv
  obtain ⟨fuel, hf⟩ := h
  obtain ⟨x, hcs⟩ := cap_open hf
  refine ⟨x, ?_⟩
  have h2 : cs.toList = x.cells := hcs
  obtain ⟨cl⟩ := cs
  simp at h2
  rw [h2]; rfl
set_option maxRecDepth 50000 in
theorem ids_open {fuel : Nat} {cs : List Value} {x : DataW H × List MemPlace} (hf : DataW.trod enc Tryz.prog W base (fun _ => true) held fuel 26 cs = some x) : ∃ a len cap l, cs = [.slice a len cap] ∧ IdRow W W.heap.size a len cap l := by
  rcases Go.Deep.open_slice Tryz.underlying26 hf with ⟨hcs, _⟩ | ⟨x, len, cap, m, n, D, Pl, hcs, _, hl, hm, hmm, hxd, hx⟩
  · exact ⟨none, 0, 0, [], by simpa [Value.cells] using hcs, rfl, Nat.le_refl _, GRow.nil⟩
  · refine ⟨some x, len, cap, ?_⟩
    have c0 : Tryz.prog.cellsOf 25 = 3 := by kernel_rfl
    rw [c0] at hx
    have hlm : len ≤ m := by rw [hmm]; split <;> omega
    have each : ∀ i, i < len → ∃ t : GId, ∀ j, j < 3 → W.cell? ((x.add (i * 3)).add j) = t.cells[j]? := fun i hi => by
      obtain ⟨cs', hc, ht⟩ := hx i (by omega)
      obtain ⟨s, rfl⟩ := id_open ht
      obtain ⟨_, _, hat⟩ := World.cells?_some hc
      exact ⟨s, fun j hj => hat j hj⟩
    haveI : Inhabited GId := ⟨⟨0, 0, 0⟩⟩
    obtain ⟨g, hgx⟩ := Go.Deep.choose_lt each
    refine ⟨(List.range len).map g, by simpa [Value.cells] using hcs, by simp, hl, fun h0 => ?_⟩
    simp at h0
    obtain ⟨b, off, spot⟩ := x
    have hc0 := hgx 0 h0 0 (by omega)
    have hspot : spot = none := by simpa [Addr.add] using World.cell?_spot (hc0.trans rfl)
    subst hspot
    have hlt := World.block_lt_of_cell? W _ (hc0.trans rfl)
    refine ⟨b, off, rfl, by simpa [Addr.add] using hlt, fun i hi j u hu => ?_⟩
    simp at hi
    have hj : j < 3 := by
      rcases Nat.lt_or_ge j 3 with h1 | h1
      · exact h1
      · rw [List.getElem?_eq_none (by simp [GId.cells]; omega)] at hu; cases hu
    have e : ((⟨b, off, none⟩ : Addr).add (i * 3)).add j = ⟨b, off + (i * 3 + j), none⟩ := by rw [Go.WideShapes.add_plain, Go.WideShapes.add_plain, Nat.add_assoc]
    have := hgx i hi j hj
    rw [e] at this
    simp at hu
    rw [this, hu]
set_option maxRecDepth 50000 in
theorem node_open {n : Nat} {cs : List Value} {x : DataW H × List MemPlace} (h : DataW.trod enc Tryz.prog W base (fun _ => true) held n 30 cs = some x) : ∃ (r : GN) (A : Option Addr) (c : Nat), Value.agg cs.toArray = r.val A c ∧ r.path.length ≤ c ∧ PRow W W.heap.size A r.path := by
  obtain ⟨ys, m, _, hxy, hlen, hyl, hf⟩ := DataW.trod_struct Tryz.underlying30 h
  have c0 : Tryz.prog.cellsOf 30 = 11 := by kernel_rfl
  rw [c0] at hlen
  match cs, hlen with
  | [v0, v1, v2, v3, v4, v5, v6, v7, v8, v9, v10], _ =>
    have n1 : Tryz.prog.cellsOf 25 = 3 := by kernel_rfl
    have n2 : Tryz.prog.cellsOf 26 = 1 := by kernel_rfl
    have n3 : Tryz.prog.cellsOf 28 = 7 := by kernel_rfl
    have h0 := hf 0 _ rfl
    have h1 := hf 1 _ rfl
    have h2 := hf 2 _ rfl
    have yl : ys.length = 3 := hyl
    match ys, yl with
    | [y0, y1, y2], _ =>
      simp [n1] at h0
      simp [n2] at h1
      simp [n3] at h2
      obtain ⟨i, hi⟩ := id_open h0
      obtain ⟨a, ha⟩ := cap_open h2
      obtain ⟨A, len, cp, l, hs, h3, h4, h5⟩ := ids_open h1
      obtain ⟨i0, i1, i2⟩ := i
      obtain ⟨a0, a1, a2, a3, a4, a5, a6⟩ := a
      simp only [GId.cells, GC.cells, List.cons.injEq, and_true] at hi ha hs
      obtain ⟨rfl, rfl, rfl⟩ := hi
      obtain ⟨rfl, rfl, rfl, rfl, rfl, rfl, rfl⟩ := ha
      subst hs h3
      exact ⟨⟨⟨i0, i1, i2⟩, l, ⟨a0, a1, a2, a3, a4, a5, a6⟩⟩, A, cp, rfl, h4, h5⟩
set_option maxRecDepth 50000 in
theorem IsNode_open {v : Value} {d : DataW H} {p : List MemPlace} {r : Reach} {b : Nat} (hv : Value.okWide Tryz.prog W r b 30 v) (h : DataW.Trod enc Tryz.prog W base (fun _ => true) held 30 v d p) : ∃ (x : GN) (A : Option Addr) (c : Nat), v = x.val A c ∧ x.path.length ≤ c ∧ PRow W W.heap.size A x.path := by
  obtain ⟨cs, rfl, _⟩ := okWide_struct Tryz.underlying30 hv
  obtain ⟨fuel, hf⟩ := h
  obtain ⟨x, A, c, hcs, h2, h3⟩ := node_open hf
  exact ⟨x, A, c, by rw [← hcs]; simp [Value.cells], h2, h3⟩
theorem IsIds_open {a : Option Addr} {len cap : Nat} {d : DataW H} {p : List MemPlace} (h : DataW.Trod enc Tryz.prog W base (fun _ => true) held 26 (.slice a len cap) d p) : ∃ l, IdRow W W.heap.size a len cap l := by
  obtain ⟨fuel, hf⟩ := h
  obtain ⟨a', len', cap', l, e, h⟩ := ids_open hf
  simp [Value.cells] at e
  obtain ⟨rfl, rfl, rfl⟩ := e
  exact ⟨l, h⟩
set_option maxRecDepth 50000 in
theorem ent_open {n : Nat} {cs : List Value} {x : DataW H × List MemPlace} (h : DataW.trod enc Tryz.prog W base (fun _ => true) held n 32 cs = some x) : ∃ r : GV, cs = r.cells ∧ r.e.node.path.length ≤ r.c ∧ PRow W W.heap.size r.A r.e.node.path := by
  obtain ⟨ys, m, _, hxy, hlen, hyl, hf⟩ := DataW.trod_struct Tryz.underlying32 h
  have c0 : Tryz.prog.cellsOf 32 = 13 := by kernel_rfl
  rw [c0] at hlen
  match cs, hlen with
  | [v0, v1, v2, v3, v4, v5, v6, v7, v8, v9, v10, v11, v12], _ =>
    have n1 : Tryz.prog.cellsOf 3 = 1 := by kernel_rfl
    have n3 : Tryz.prog.cellsOf 30 = 11 := by kernel_rfl
    have h0 := hf 0 _ rfl
    have h1 := hf 1 _ rfl
    have h2 := hf 2 _ rfl
    have yl : ys.length = 3 := hyl
    match ys, yl with
    | [y0, y1, y2], _ =>
      simp [n1] at h0
      simp [n1] at h1
      simp [n3] at h2
      obtain ⟨a0, e0, _, _⟩ := DataW.trod_int Tryz.underlying3 h0
      obtain ⟨a1, e1, _, _⟩ := DataW.trod_int Tryz.underlying3 h1
      obtain ⟨r, A, cp, hr, h4, h5⟩ := node_open h2
      simp at e0 e1
      subst e0 e1
      obtain ⟨⟨i0, i1, i2⟩, l, ⟨b0, b1, b2, b3, b4, b5, b6⟩⟩ := r
      simp only [GN.val, Value.agg.injEq, Array.mk.injEq, List.cons.injEq, and_true] at hr
      obtain ⟨rfl, rfl, rfl, rfl, rfl, rfl, rfl, rfl, rfl, rfl, rfl⟩ := hr
      exact ⟨⟨⟨a0, a1, ⟨⟨i0, i1, i2⟩, l, ⟨b0, b1, b2, b3, b4, b5, b6⟩⟩⟩, A, cp⟩, rfl, h4, h5⟩
def ERowA (w : World) (B : Nat) (A : Option Addr) (len cap : Nat) (l : List GV) : Prop := l.length = len ∧ len ≤ cap ∧ ERow w B A l
set_option maxRecDepth 50000 in
theorem IsEntry_open {v : Value} {d : DataW H} {p : List MemPlace} {r : Reach} {b : Nat} (hv : Value.okWide Tryz.prog W r b 32 v) (h : DataW.Trod enc Tryz.prog W base (fun _ => true) held 32 v d p) : ∃ x : GV, v = x.val ∧ PW W W.heap.size x := by
  obtain ⟨cs, rfl, _⟩ := okWide_struct Tryz.underlying32 hv
  obtain ⟨fuel, hf⟩ := h
  obtain ⟨x, hcs, h2, h3⟩ := ent_open hf
  refine ⟨x, ?_, h3, h2⟩
  have h4 : cs.toList = x.cells := hcs
  obtain ⟨cl⟩ := cs
  simp at h4
  rw [h4]; rfl
set_option maxRecDepth 50000 in
theorem IsEntries_open {a : Option Addr} {len cap : Nat} {d : DataW H} {p : List MemPlace} (h : DataW.Trod enc Tryz.prog W base (fun _ => true) held 22 (.slice a len cap) d p) : ∃ l, ERowA W W.heap.size a len cap l := by
  obtain ⟨fuel, hf⟩ := h
  rcases Go.Deep.open_slice Tryz.underlying22 hf with ⟨hcs, _⟩ | ⟨x, l, c, m, n, D, Pl, hcs, _, hl, hm, hmm, hxd, hx⟩
  · simp [Value.cells] at hcs
    obtain ⟨rfl, rfl, rfl⟩ := hcs
    exact ⟨[], rfl, Nat.le_refl _, ERow.nil⟩
  · simp [Value.cells] at hcs
    obtain ⟨rfl, rfl, rfl⟩ := hcs
    have c0 : Tryz.prog.cellsOf 32 = 13 := by kernel_rfl
    rw [c0] at hx
    have hlm : len ≤ m := by rw [hmm]; split <;> omega
    have each : ∀ i, i < len → ∃ t : GV, (∀ j, j < 13 → W.cell? ((x.add (i * 13)).add j) = t.cells[j]?) ∧ t.e.node.path.length ≤ t.c ∧ PRow W W.heap.size t.A t.e.node.path := fun i hi => by
      obtain ⟨cs', hc, ht⟩ := hx i (by omega)
      obtain ⟨s, rfl, h2, h3⟩ := ent_open ht
      obtain ⟨_, _, hat⟩ := World.cells?_some hc
      exact ⟨s, fun j hj => hat j hj, h2, h3⟩
    haveI : Inhabited GV := ⟨⟨⟨0, 0, ⟨⟨0, 0, 0⟩, [], ⟨0, 0, 0, 0, 0, 0, false⟩⟩⟩, none, 0⟩⟩
    obtain ⟨g, hgx⟩ := Go.Deep.choose_lt each
    refine ⟨(List.range len).map g, by simp, hl, fun h0 => ?_, fun y hy => ?_⟩
    · simp at h0
      obtain ⟨b, off, spot⟩ := x
      have hc0 := (hgx 0 h0).1 0 (by omega)
      have hspot : spot = none := by simpa [Addr.add] using World.cell?_spot (hc0.trans rfl)
      subst hspot
      have hlt := World.block_lt_of_cell? W _ (hc0.trans rfl)
      refine ⟨b, off, rfl, by simpa [Addr.add] using hlt, fun i hi j u hu => ?_⟩
      simp at hi
      have hj : j < 13 := by
        rcases Nat.lt_or_ge j 13 with h1 | h1
        · exact h1
        · rw [List.getElem?_eq_none (by simp [GV.cells]; omega)] at hu; cases hu
      have e : ((⟨b, off, none⟩ : Addr).add (i * 13)).add j = ⟨b, off + (i * 13 + j), none⟩ := by rw [Go.WideShapes.add_plain, Go.WideShapes.add_plain, Nat.add_assoc]
      have := (hgx i hi).1 j hj
      rw [e] at this
      simp at hu
      rw [this, hu]
    · obtain ⟨i, hi, rfl⟩ := List.mem_map.1 hy
      have h2 := (hgx i (by simpa using hi)).2
      exact ⟨h2.2, h2.1⟩
end
end Go.Proofs.YtndppbfdcceflaaGreatDoor
