/-
  The reference's Descendants and Parent; whether entries are few.
  Conditions: at most 100000 entries.
  The reference's Prune and Evict, and its comparison of entries.
  Conditions: at most 100000 entries.
  Copies of entries whose paths are new; the reference's Remove.
  Conditions: at most 10000 entries.
  The reference's Insert.
  Conditions: at most 10000 entries.
  The law ForestChangesExact returns true.
  Conditions: the table of math/bits lies as the program's text lays it.
  Ids, slices of Ids, nodes, entries and slices of entries that come in as arguments, as the library opens them.
  Conditions: none beyond the frame's.
-/
import Derived.Test.YtndppbfdcceflaaGreatDoorMy4
import Derived.Deep.Slices
import Derived.Deep.Fields
import Derived.OpenShut
import Derived.ChangeSlices
import Derived.ChangeSame
import Derived.SizedLaws
namespace Go.Proofs.YtndppbfdcceflaaGreatDoor
open Go.RowKit

set_option maxRecDepth 20000 in
set_option maxHeartbeats 1000000 in
theorem rDesE_any (xs : List GV) (A : Option Addr) (c : Nat) (i : GId) (w : World) (h1 : ERow w w.heap.size A xs) (hl : xs.length ≤ 100000) (hp : ∀ x ∈ xs, x.e.node.path.length ≤ 17179869184) :
    Calls Tryz.prog 28 #[.slice A xs.length c, i.val] w (IdsEnd (desL (xs.map GV.e) i) w) := by
  have H1 := Lib.hid h1
  have HHL := Lib.hid fun k (hk : k < xs.length) W (hW : Below w.heap.size w W) => rHas_any xs[k].e.node.path xs[k].A xs[k].c i W ((h1.pth _ (List.getElem_mem hk)).1.next hW) (hp _ (List.getElem_mem hk))
  have HST := Lib.hid fun k (hk : k < xs.length) => desL_succ xs i hk
  have HLN : Hid (∀ k, (desL ((xs.map GV.e).take k) i).length ≤ k) := Lib.hid fun k => Nat.le_trans (desL_len _ _) (by simp; omega)
  have HALL : Hid (desL ((xs.map GV.e).take xs.length) i = desL (xs.map GV.e) i) := Lib.hid (by rw [List.take_of_length_le (by simp)])
  have HD0 : Hid (desL ((xs.map GV.e).take 0) i = []) := Lib.hid (by simp [desL])
  have HEND : Hid (∀ v W, OwnG GId.cells 25 3 W w.heap.size v (desL (xs.map GV.e) i) → Below w.heap.size w W → IdsEnd (desL (xs.map GV.e) i) w (.returned v) W) := Lib.hid fun v W h1 h2 => ⟨v, rfl, h1, h2⟩
  have HX := Lib.hid (IB.new w i)
  have HB0 := Lib.hid (belt (Below.refl _ w) (.cells #[.int .i64 i.core, .int .i64 i.op, .int .i64 i.part] 25))
  have HM0 : Hid (w.heap.size ≤ (w.alloc (.cells #[.int .i64 i.core, .int .i64 i.op, .int .i64 i.part] 25)).heap.size) := Lib.hid HB0.out.size
  generalize IdsEnd (desL (xs.map GV.e) i) w = EE at *
  generalize desL (xs.map GV.e) i = RL at *
  obtain ⟨D, hD⟩ : ∃ D : Nat → List GId, ∀ k, desL ((xs.map GV.e).take k) i = D k := ⟨_, fun _ => rfl⟩
  simp only [hD] at HST HLN HALL HD0
  clear h1 hp hD
  obtain ⟨j0, j1, j2⟩ := i
  simp only [GId.val] at *
  go_enter Tryz.func28, Tryz.ntmps28
  go_wp2
  generalize w.alloc (.cells #[.int .i64 j0, .int .i64 j1, .int .i64 j2] 25) = wI at *
  go_loopw [5, 6] (fun v5 vi wr => ∃ k : Nat, vi = .int .i64 k ∧ k ≤ xs.length ∧ Hid (OwnG GId.cells 25 3 wr wI.heap.size v5 (D k)) ∧ Hid (Below wI.heap.size wI wr)) (fun _ vi _ => xs.length - (intOf vi).toNat)
  case atStart => exact ⟨0, rfl, Nat.zero_le _, Lib.hid (by rw [HD0.out]; exact OwnG.nil _ _), Lib.hid (Below.refl _ _)⟩
  case round =>
    obtain ⟨k, rfl, hk, HO, HB⟩ := hrel
    have HBw := Lib.hid (beln HB0.out HB.out)
    rcases Nat.lt_or_ge k xs.length with hlt | hge
    · obtain ⟨An, cn, rfl, hcn, hmn, hrn⟩ := HO.out.row GId.len
      clear hcn hmn hrn
      obtain ⟨b1, o1, rfl, hb1, ⟨x0, x1, x2, x3, x4, x5, x6, x7, x8, x9, x10, x11, x12⟩⟩ := (H1.out.next HBw.out).row.gev hlt
      have HSK := Lib.hid (HST.out k hlt)
      have HLK := Lib.hid (HLN.out k)
      have HHK := Lib.hid fun W (hW : Below wr.heap.size wr W) => HHL.out k hlt W (beln HBw.out hW)
      generalize hasI xs[k].e.node.path ⟨j0, j1, j2⟩ = b at *
      generalize xs[k] = x at *
      obtain ⟨⟨xc, xs', ⟨⟨i0, i1, i2⟩, xp, ⟨a0, a1, a2, a3, a4, a5, a6⟩⟩⟩, xA, xcp⟩ := x
      simp only at x0 x1 x2 x3 x4 x5 x6 x7 x8 x9 x10 x11 x12 HSK HHK
      obtain ⟨y0, y1, y2⟩ := (HX.out.next HB.out).cells
      have hXl := (HX.out.next HB.out).lt
      simp only at y0 y1 y2
      have hk0 : 0 ≤ (k : Int) := by omega
      have hk1 : (k : Int) < (xs.length : Int) := by omega
      have hk2 : (k : Int).toNat = k := by omega
      go_upto_region 5 with fail
      have hS := (Below.refl wr.heap.size wr).drew
      refine wp_region_growS (S := fun W => Below wr.heap.size wr W) [(0, true), (1, true), (2, true), (3, true), (4, true), (5, true), (6, true), (7, false)] (by kernel_rfl) (by kernel_rfl) (by kernel_rfl) (by kernel_rfl) (by intro c a d v w h; cases d <;> exact h) hS ?_
      iterate 7
        (first
          | (refine wpGrowS_float (v := ?_) (by simp only [List.getElem?_toArray, List.getElem?_cons_succ, List.getElem?_cons_zero]; rfl) (by rfl) ?_ ?_
             rotate_left
             · (intro W hW; have t2 := (hW.cell (p := ⟨b1, o1 + k * 13 + 2, none⟩) hb1).trans x2; have t3 := (hW.cell (p := ⟨b1, o1 + k * 13 + 3, none⟩) hb1).trans x3; have t4 := (hW.cell (p := ⟨b1, o1 + k * 13 + 4, none⟩) hb1).trans x4; have t5 := (hW.cell (p := ⟨b1, o1 + k * 13 + 5, none⟩) hb1).trans x5; have t6 := (hW.cell (p := ⟨b1, o1 + k * 13 + 6, none⟩) hb1).trans x6; have t7 := (hW.cell (p := ⟨b1, o1 + k * 13 + 7, none⟩) hb1).trans x7; have t8 := (hW.cell (p := ⟨b1, o1 + k * 13 + 8, none⟩) hb1).trans x8; have t9 := (hW.cell (p := ⟨b1, o1 + k * 13 + 9, none⟩) hb1).trans x9; have t10 := (hW.cell (p := ⟨b1, o1 + k * 13 + 10, none⟩) hb1).trans x10; have t11 := (hW.cell (p := ⟨b1, o1 + k * 13 + 11, none⟩) hb1).trans x11; have t12 := (hW.cell (p := ⟨b1, o1 + k * 13 + 12, none⟩) hb1).trans x12; have u0 := (hW.cell (p := ⟨w.heap.size, 0, none⟩) hXl).trans y0; have u1 := (hW.cell (p := ⟨w.heap.size, 1, none⟩) hXl).trans y1; have u2 := (hW.cell (p := ⟨w.heap.size, 2, none⟩) hXl).trans y2; (try simp only at *); go_simp; try with_reducible rfl)
             simp only [Act.put, List.setIfInBounds_toArray, List.set_cons_zero, List.set_cons_succ])
          | (refine wpGrowS_skip (by simp only [List.getElem?_toArray, List.getElem?_cons_succ, List.getElem?_cons_zero]; rfl) (by rfl) ?_
             simp only [Act.put, List.setIfInBounds_toArray, List.set_cons_zero, List.set_cons_succ]))
      refine wpGrowS_call (by simp only [List.getElem?_toArray, List.getElem?_cons_succ, List.getElem?_cons_zero]; rfl) (by rfl) fun K hK => ?_
      go_simp
      go_fit (HHK.out _ hS)
      rintro e wn ⟨rfl, hbn⟩
      have hSp := hS
      have hS : Below wr.heap.size wr wn := beln hS hbn
      go_simp
      refine hK _ _ hS ?_
      clear hK K
      try simp only [Act.put, List.setIfInBounds_toArray, List.set_cons_zero, List.set_cons_succ]
      refine wpGrowS_nil ?_
      have HB2 := Lib.hid (beln HB.out hS)
      have HO2 := Lib.hid (HO.out.next hS)
      obtain ⟨_, _, z2, z3, z4, _, _, _, _, _, _, _, _⟩ := (show EVF wr b1 (o1 + k * 13) ⟨⟨xc, xs', ⟨⟨i0, i1, i2⟩, xp, ⟨a0, a1, a2, a3, a4, a5, a6⟩⟩⟩, xA, xcp⟩ from ⟨x0, x1, x2, x3, x4, x5, x6, x7, x8, x9, x10, x11, x12⟩).next hb1 hS
      simp only at z2 z3 z4
      clear hS x0 x1 x2 x3 x4 x5 x6 x7 x8 x9 x10 x11 x12 y0 y1 y2 HHK hk0 hk2 hXl
      rcases b with _ | _
      · have HO9 : Hid (OwnG GId.cells 25 3 wn wI.heap.size (.slice An (D k).length cn) (D (k + 1))) := Lib.hid (by rw [HSK.out, if_neg (by simp), List.append_nil]; exact HO2.out)
        clear z2 z3 z4
        go_wp2
        go_roundw
        case rel => exact ⟨k + 1, by go_num, by omega, HO9, HB2⟩
        case measure => simp [intOf]; omega
      · obtain ⟨v9, w9, hrun9, hown9, hb9⟩ := OwnI.snoc HO2.out HB2.out (Nat.le_refl _) HB2.out.size ⟨i0, i1, i2⟩ (by have := HLK.out; omega)
        simp only at hrun9
        have HRUN := Lib.hid hrun9
        have HB9 := Lib.hid hb9
        have HO9 : Hid (OwnG GId.cells 25 3 w9 wI.heap.size v9 (D (k + 1))) := Lib.hid (by rw [HSK.out, if_pos rfl]; exact hown9)
        clear hrun9 hown9 hb9
        generalize (D k).length = dl at *
        go_wp2_with (at_builtin; refine wpList_gapp HRUN.out rfl rfl rfl rfl rfl ?_)
        go_roundw
        case rel => exact ⟨k + 1, by go_num, by omega, HO9, HB9⟩
        case measure => simp [intOf]; omega
    · obtain rfl : k = xs.length := by omega
      have HO9 := Lib.hid (HO.out.low HM0.out)
      rw [HALL.out] at HO9
      go_wp2
      exact HEND.out _ _ HO9.out HBw.out
set_option maxRecDepth 20000 in
set_option maxHeartbeats 1000000 in
theorem rParE_any (xs : List GV) (A : Option Addr) (c : Nat) (i : GId) (w : World) (h1 : ERow w w.heap.size A xs) (hl : xs.length ≤ 100000) (hp : ∀ x ∈ xs, x.e.node.path.length ≤ 17179869184) :
    Calls Tryz.prog 23 #[.slice A xs.length c, i.val] w fun e w' => e = .returned (.tuple #[(parEI (xs.map GV.e) i).val, .bool (parEB (xs.map GV.e) i)]) ∧ Below w.heap.size w w' := by
  have H1 := Lib.hid h1
  have HFI := Lib.hid fun W (hW : Below w.heap.size w W) => rFindE_any xs A c i W (h1.row.next hW) (by omega)
  have HX := Lib.hid ((IB.new w i).next (belt (Below.refl _ _) (.cells #[.int .i64 0, .int .i64 0, .int .i64 0] 25)))
  have HZ := Lib.hid (IB.new (w.alloc (.cells #[.int .i64 i.core, .int .i64 i.op, .int .i64 i.part] 25)) ⟨0, 0, 0⟩)
  simp only [World.size_alloc] at HZ
  have HB0 := Lib.hid (belt (belt (Below.refl _ w) (.cells #[.int .i64 i.core, .int .i64 i.op, .int .i64 i.part] 25)) (.cells #[.int .i64 0, .int .i64 0, .int .i64 0] 25))
  rcases Int.lt_or_le (fidx (pid i) (xs.map GV.e)) 0 with hr | hr
  · obtain ⟨e1, e2⟩ := par_no hr
    rw [e1, e2]
    have f1 : decide (fidx (pid i) (xs.map GV.e) < 0) = true := by simpa using hr
    generalize fidx (pid i) (xs.map GV.e) = r at *
    clear e1 e2 h1 hp
    obtain ⟨j0, j1, j2⟩ := i
    simp only [GId.val] at *
    obtain ⟨y0, y1, y2⟩ := HX.out.cells
    simp only at y0 y1 y2
    go_enter Tryz.func23, Tryz.ntmps23
    go_wp2_with fail
    go_fit (HFI.out _ HB0.out)
    rintro e w1 ⟨rfl, hb1⟩
    have HB1 := Lib.hid (beln HB0.out hb1)
    obtain ⟨z0, z1, z2⟩ := (HZ.out.next hb1).cells
    have zf := (HZ.out.next hb1).frz
    simp only at z0 z1 z2
    clear hb1 HFI y0 y1 y2
    go_wp2
    refine bodyPost_ret (v := .tuple #[.agg #[.int .i64 0, .int .i64 0, .int .i64 0], .bool false]) (by simp [results, Tryz.results23, go_sem, z0, z1, z2]) rfl ?_
    exact ⟨rfl, ((HB1.out.setCell (p := ⟨w.heap.size + 1, 0, none⟩) (by simp) _).setCell (p := ⟨w.heap.size + 1, 1, none⟩) (by simp) _).setCell (p := ⟨w.heap.size + 1, 2, none⟩) (by simp) _⟩
  · obtain ⟨r, hr2⟩ := Int.eq_ofNat_of_zero_le hr
    obtain ⟨hrl, e1, e2⟩ := par_at hr2
    rw [e1, e2]
    rw [hr2] at HFI
    have HID := Lib.hid fun W (hW : Below w.heap.size w W) => rIdsE_any xs A c W (h1.row.next hW) hl
    have HPR := Lib.hid fun L d W (hW : Below w.heap.size w W) (hL : PRow W W.heap.size L (idsE (xs.map GV.e))) => rPar_any xs[r].e.node xs[r].A xs[r].c (idsE (xs.map GV.e)) L d W ((h1.pth _ (List.getElem_mem hrl)).1.next hW) hL (hp _ (List.getElem_mem hrl)) (by unfold idsE; simp; omega)
    have HLL : Hid ((idsE (xs.map GV.e)).length = xs.length) := Lib.hid (by unfold idsE; simp)
    obtain ⟨b1, o1, rfl, hb1, ⟨x0, x1, x2, x3, x4, x5, x6, x7, x8, x9, x10, x11, x12⟩⟩ := h1.row.gev hrl
    generalize parI xs[r].e.node.path (idsE (xs.map GV.e)) = pi at *
    generalize parB xs[r].e.node.path (idsE (xs.map GV.e)) = pb at *
    unfold IdsEnd at HID
    generalize idsE (xs.map GV.e) = RL at *
    unfold GN.val at HPR
    generalize hx : xs[r] = x at *
    clear hr hr2 e1 e2 h1 hp hx
    obtain ⟨⟨xc, xs', ⟨⟨i0, i1, i2⟩, xp, ⟨a0, a1, a2, a3, a4, a5, a6⟩⟩⟩, xA, xcp⟩ := x
    obtain ⟨j0, j1, j2⟩ := i
    simp only [GId.val] at *
    obtain ⟨y0, y1, y2⟩ := HX.out.cells
    simp only at y0 y1 y2
    go_enter Tryz.func23, Tryz.ntmps23
    go_wp2_with fail
    go_fit (HFI.out _ HB0.out)
    rintro e w1 ⟨rfl, hb1'⟩
    have HB1 := Lib.hid (beln HB0.out hb1')
    have HZ1 := Lib.hid (HZ.out.next hb1')
    clear hb1' HFI y0 y1 y2 HX HZ HB0
    have hk0 : 0 ≤ (r : Int) := by omega
    have hk1 : (r : Int) < (xs.length : Int) := by omega
    have hk2 : (r : Int).toNat = r := by omega
    have hk3 : ¬ ((r : Int) < 0) := by omega
    go_upto_region 4 with fail
    have hS : Below w.heap.size w w1.drew := HB1.out.drew
    refine wp_region_growS (S := fun W => Below w.heap.size w W) [(0, true), (1, true), (2, true), (3, true), (4, true), (5, true), (6, false), (7, false), (8, true), (9, true), (10, false), (11, true)] (by kernel_rfl) (by kernel_rfl) (by kernel_rfl) (by kernel_rfl) (by intro c a d v w h; cases d <;> exact h) hS ?_
    iterate 6
      (first
        | (refine wpGrowS_float (v := ?_) (by simp only [List.getElem?_toArray, List.getElem?_cons_succ, List.getElem?_cons_zero]; rfl) (by rfl) ?_ ?_
           rotate_left
           · (intro W hW; have t2 := (hW.cell (p := ⟨b1, o1 + r * 13 + 2, none⟩) hb1).trans x2; have t3 := (hW.cell (p := ⟨b1, o1 + r * 13 + 3, none⟩) hb1).trans x3; have t4 := (hW.cell (p := ⟨b1, o1 + r * 13 + 4, none⟩) hb1).trans x4; have t5 := (hW.cell (p := ⟨b1, o1 + r * 13 + 5, none⟩) hb1).trans x5; have t6 := (hW.cell (p := ⟨b1, o1 + r * 13 + 6, none⟩) hb1).trans x6; have t7 := (hW.cell (p := ⟨b1, o1 + r * 13 + 7, none⟩) hb1).trans x7; have t8 := (hW.cell (p := ⟨b1, o1 + r * 13 + 8, none⟩) hb1).trans x8; have t9 := (hW.cell (p := ⟨b1, o1 + r * 13 + 9, none⟩) hb1).trans x9; have t10 := (hW.cell (p := ⟨b1, o1 + r * 13 + 10, none⟩) hb1).trans x10; have t11 := (hW.cell (p := ⟨b1, o1 + r * 13 + 11, none⟩) hb1).trans x11; have t12 := (hW.cell (p := ⟨b1, o1 + r * 13 + 12, none⟩) hb1).trans x12; (try simp only at *); go_simp; try with_reducible rfl)
           simp only [Act.put, List.setIfInBounds_toArray, List.set_cons_zero, List.set_cons_succ])
        | (refine wpGrowS_skip (by simp only [List.getElem?_toArray, List.getElem?_cons_succ, List.getElem?_cons_zero]; rfl) (by rfl) ?_
           simp only [Act.put, List.setIfInBounds_toArray, List.set_cons_zero, List.set_cons_succ]))
    refine wpGrowS_call (by simp only [List.getElem?_toArray, List.getElem?_cons_succ, List.getElem?_cons_zero]; rfl) (by rfl) fun K hK => ?_
    go_simp
    go_fit (HID.out _ hS)
    rintro e w2 ⟨v2, rfl, ho2, hb2⟩
    obtain ⟨A2, c2, rfl, _, _, hr2⟩ := ho2.row GId.len
    have hS2 : Below w.heap.size w w2 := beln hS hb2
    have HZ2 := Lib.hid ((show IB w1.drew (w.heap.size + 1) ⟨0, 0, 0⟩ from HZ1.out).next hb2)
    have HPX := Lib.hid (HPR.out A2 c2 w2 hS2 hr2)
    rw [HLL.out] at HPX ⊢
    clear ho2 hb2 hr2
    go_simp
    refine hK _ _ hS2 ?_
    clear hK K
    try simp only [Act.put, List.setIfInBounds_toArray, List.set_cons_zero, List.set_cons_succ]
    refine wpGrowS_call (by simp only [List.getElem?_toArray, List.getElem?_cons_succ, List.getElem?_cons_zero]; rfl) (by rfl) fun K hK => ?_
    go_simp
    go_fit HPX.out
    rintro e w3 ⟨rfl, hb3⟩
    have hS3 : Below w.heap.size w w3 := beln hS2 hb3
    obtain ⟨z0, z1, z2⟩ := (HZ2.out.next hb3).cells
    have zf := (HZ2.out.next hb3).frz
    have zl := (HZ2.out.next hb3).lt
    simp only at z0 z1 z2
    obtain ⟨pi0, pi1, pi2⟩ := pi
    clear hb3 HPX
    go_simp
    refine hK _ _ hS3 ?_
    clear hK K
    try simp only [Act.put, List.setIfInBounds_toArray, List.set_cons_zero, List.set_cons_succ]
    iterate 2
      (first
        | (refine wpGrowS_float (v := ?_) (by simp only [List.getElem?_toArray, List.getElem?_cons_succ, List.getElem?_cons_zero]; rfl) (by rfl) ?_ ?_
           rotate_left
           · (intro W hW; have t2 := (hW.cell (p := ⟨b1, o1 + r * 13 + 2, none⟩) hb1).trans x2; have t3 := (hW.cell (p := ⟨b1, o1 + r * 13 + 3, none⟩) hb1).trans x3; have t4 := (hW.cell (p := ⟨b1, o1 + r * 13 + 4, none⟩) hb1).trans x4; have t5 := (hW.cell (p := ⟨b1, o1 + r * 13 + 5, none⟩) hb1).trans x5; have t6 := (hW.cell (p := ⟨b1, o1 + r * 13 + 6, none⟩) hb1).trans x6; have t7 := (hW.cell (p := ⟨b1, o1 + r * 13 + 7, none⟩) hb1).trans x7; have t8 := (hW.cell (p := ⟨b1, o1 + r * 13 + 8, none⟩) hb1).trans x8; have t9 := (hW.cell (p := ⟨b1, o1 + r * 13 + 9, none⟩) hb1).trans x9; have t10 := (hW.cell (p := ⟨b1, o1 + r * 13 + 10, none⟩) hb1).trans x10; have t11 := (hW.cell (p := ⟨b1, o1 + r * 13 + 11, none⟩) hb1).trans x11; have t12 := (hW.cell (p := ⟨b1, o1 + r * 13 + 12, none⟩) hb1).trans x12; (try simp only at *); go_simp; try with_reducible rfl)
           simp only [Act.put, List.setIfInBounds_toArray, List.set_cons_zero, List.set_cons_succ])
        | (refine wpGrowS_skip (by simp only [List.getElem?_toArray, List.getElem?_cons_succ, List.getElem?_cons_zero]; rfl) (by rfl) ?_
           simp only [Act.put, List.setIfInBounds_toArray, List.set_cons_zero, List.set_cons_succ]))
    refine wpGrowS_call (by simp only [List.getElem?_toArray, List.getElem?_cons_succ, List.getElem?_cons_zero]; rfl) (by rfl) fun K hK => ?_
    go_simp
    have hS4 := ((hS3.setCell (p := ⟨w.heap.size + 1, 0, none⟩) (by simp) (.int .i64 pi0)).setCell (p := ⟨w.heap.size + 1, 1, none⟩) (by simp) (.int .i64 pi1)).setCell (p := ⟨w.heap.size + 1, 2, none⟩) (by simp) (.int .i64 pi2)
    refine hK _ _ hS4 ?_
    clear hK K
    try simp only [Act.put, List.setIfInBounds_toArray, List.set_cons_zero, List.set_cons_succ]
    iterate 1
      (first
        | (refine wpGrowS_float (v := ?_) (by simp only [List.getElem?_toArray, List.getElem?_cons_succ, List.getElem?_cons_zero]; rfl) (by rfl) ?_ ?_
           rotate_left
           · (intro W hW; have t2 := (hW.cell (p := ⟨b1, o1 + r * 13 + 2, none⟩) hb1).trans x2; have t3 := (hW.cell (p := ⟨b1, o1 + r * 13 + 3, none⟩) hb1).trans x3; have t4 := (hW.cell (p := ⟨b1, o1 + r * 13 + 4, none⟩) hb1).trans x4; have t5 := (hW.cell (p := ⟨b1, o1 + r * 13 + 5, none⟩) hb1).trans x5; have t6 := (hW.cell (p := ⟨b1, o1 + r * 13 + 6, none⟩) hb1).trans x6; have t7 := (hW.cell (p := ⟨b1, o1 + r * 13 + 7, none⟩) hb1).trans x7; have t8 := (hW.cell (p := ⟨b1, o1 + r * 13 + 8, none⟩) hb1).trans x8; have t9 := (hW.cell (p := ⟨b1, o1 + r * 13 + 9, none⟩) hb1).trans x9; have t10 := (hW.cell (p := ⟨b1, o1 + r * 13 + 10, none⟩) hb1).trans x10; have t11 := (hW.cell (p := ⟨b1, o1 + r * 13 + 11, none⟩) hb1).trans x11; have t12 := (hW.cell (p := ⟨b1, o1 + r * 13 + 12, none⟩) hb1).trans x12; (try simp only at *); go_simp; try with_reducible rfl)
           simp only [Act.put, List.setIfInBounds_toArray, List.set_cons_zero, List.set_cons_succ])
        | (refine wpGrowS_skip (by simp only [List.getElem?_toArray, List.getElem?_cons_succ, List.getElem?_cons_zero]; rfl) (by rfl) ?_
           simp only [Act.put, List.setIfInBounds_toArray, List.set_cons_zero, List.set_cons_succ]))
    refine wpGrowS_nil ?_
    have HBF := Lib.hid hS4
    clear hS hS2 hS3 hS4 x0 x1 x2 x3 x4 x5 x6 x7 x8 x9 x10 x11 x12 hk0 hk1 hk2 hk3
    go_wp2
    refine bodyPost_ret (v := .tuple #[.agg #[.int .i64 pi0, .int .i64 pi1, .int .i64 pi2], .bool pb]) (by simp [results, Tryz.results23, go_sem, z0, z1, z2]) rfl ?_
    exact ⟨rfl, HBF.out⟩
/-- Whether entries are few and their paths short. -/
def fewE (xs : List GV) : Bool := (xs.take 50).all (fun x => decide (x.e.node.path.length ≤ 20)) && decide (xs.length ≤ 40)
theorem fewE_of {xs : List GV} (h : fewE xs = true) : xs.length ≤ 40 ∧ ∀ x ∈ xs, x.e.node.path.length ≤ 20 := by
  unfold fewE at h
  rw [Bool.and_eq_true, decide_eq_true_eq, List.all_eq_true] at h
  refine ⟨h.2, fun x hx => ?_⟩
  have := h.1 x (by rw [List.take_of_length_le (by omega)]; exact hx)
  simpa using this
set_option maxRecDepth 20000 in
set_option maxHeartbeats 1000000 in
theorem fewE_any (xs : List GV) (A : Option Addr) (c : Nat) (w : World) (h1 : GRow GV.cells 13 w w.heap.size A xs) :
    Calls Tryz.prog 13 #[.slice A xs.length c] w fun e w' => e = .returned (.bool (fewE xs)) ∧ w' = w := by
  have H1 := Lib.hid h1
  have HQ1 : Hid (∀ k (hk : k < xs.length), k < 50 → 20 < xs[k].e.node.path.length → fewE xs = false) := Lib.hid fun k hk h5 h2 => by
    unfold fewE
    rw [Bool.and_eq_false_iff]
    left
    rw [List.all_eq_false]
    refine ⟨xs[k], ?_, by simpa using h2⟩
    rw [List.mem_take_iff_getElem]
    exact ⟨k, by omega, rfl⟩
  have HQ2 : Hid ((∀ k (hk : k < xs.length), k < 50 → xs[k].e.node.path.length ≤ 20) → fewE xs = decide (xs.length ≤ 40)) := Lib.hid fun h => by
    unfold fewE
    have : (xs.take 50).all (fun x => decide (x.e.node.path.length ≤ 20)) = true := by
      rw [List.all_eq_true]
      intro x hx
      rw [List.mem_take_iff_getElem] at hx
      obtain ⟨k, hk, rfl⟩ := hx
      simpa using h k (by omega) (by omega)
    rw [this, Bool.true_and]
  generalize fewE xs = q at *
  clear h1
  go_enter Tryz.func13, Tryz.ntmps13
  go_wp2
  go_loopw [3] (fun vi wr => ∃ k : Nat, vi = .int .i64 k ∧ k ≤ 50 ∧ k ≤ xs.length ∧ Hid (∀ j (hj : j < xs.length), j < k → xs[j].e.node.path.length ≤ 20) ∧ Hid (wr = w)) (fun vi _ => 50 - (intOf vi).toNat)
  case atStart => exact ⟨0, rfl, Nat.zero_le _, Nat.zero_le _, Lib.hid fun j _ hj => absurd hj (by omega), Lib.hid rfl⟩
  case round =>
    obtain ⟨k, rfl, hk, hkl, HT, HB⟩ := hrel
    obtain rfl := HB.out
    by_cases hlt : k < xs.length ∧ k < 50
    · obtain ⟨hl1, hl2⟩ := hlt
      obtain ⟨b1, o1, rfl, hb1, ⟨x0, x1, x2, x3, x4, x5, x6, x7, x8, x9, x10, x11, x12⟩⟩ := H1.out.gev hl1
      by_cases h20 : 20 < xs[k].e.node.path.length
      · have HF := Lib.hid (HQ1.out k hl1 hl2 h20)
        have f2 : decide ((20 : Int) < (xs[k].e.node.path.length : Int)) = true := by simp; omega
        generalize xs[k].e.node.path.length = n at *
        clear x0 x1 x2 x3 x4 x6 x7 x8 x9 x10 x11 x12 HT
        go_wp2
        go_ret
        exact ⟨congrArg (fun b => Ending.returned (Value.bool b)) HF.out.symm, rfl⟩
      · have HT2 : Hid (∀ j (hj : j < xs.length), j < k + 1 → xs[j].e.node.path.length ≤ 20) := Lib.hid fun j hj hjk => by
          rcases Nat.lt_or_ge j k with h | h
          · exact HT.out j hj h
          · obtain rfl : j = k := by omega
            omega
        have f2 : decide ((20 : Int) < (xs[k].e.node.path.length : Int)) = false := by simp; omega
        generalize xs[k].e.node.path.length = n at *
        clear x0 x1 x2 x3 x4 x6 x7 x8 x9 x10 x11 x12 HT
        go_wp2
        go_roundw
        case rel => exact ⟨k + 1, by go_num, by omega, by omega, HT2, Lib.hid (by trivial)⟩
        case measure => simp [intOf]; omega
    · have HF := Lib.hid (HQ2.out fun j hj h5 => HT.out j hj (by omega))
      by_cases hge : k < xs.length
      · have h50 : ¬ k < 50 := fun h => hlt ⟨hge, h⟩
        obtain rfl : k = 50 := by omega
        clear hlt h50
        have HF2 : Hid (q = false) := Lib.hid (by rw [HF.out]; simp; omega)
        go_wp2
        go_ret
        exact ⟨congrArg (fun b => Ending.returned (Value.bool b)) (by rw [HF2.out]; simp; omega), rfl⟩
      · obtain rfl : k = xs.length := by omega
        clear hlt hge
        by_cases h40 : xs.length ≤ 40
        · have HF2 : Hid (q = true) := Lib.hid (by rw [HF.out]; simp; omega)
          go_wp2
          go_ret
          exact ⟨congrArg (fun b => Ending.returned (Value.bool b)) (by rw [HF2.out]; first | rfl | (simp; omega)), rfl⟩
        · have HF2 : Hid (q = false) := Lib.hid (by rw [HF.out]; simp; omega)
          go_wp2
          go_ret
          exact ⟨congrArg (fun b => Ending.returned (Value.bool b)) (by rw [HF2.out]; first | rfl | (simp; omega)), rfl⟩
end Go.Proofs.YtndppbfdcceflaaGreatDoor


namespace Go.Proofs.YtndppbfdcceflaaGreatDoor
open Go.RowKit

set_option maxRecDepth 20000 in
set_option maxHeartbeats 1000000 in
theorem rPrnE_any (xs : List GV) (A : Option Addr) (c : Nat) (i : GId) (w : World) (h1 : ERow w w.heap.size A xs) (hl : xs.length ≤ 100000) (hp : ∀ x ∈ xs, x.e.node.path.length ≤ 17179869184) :
    Calls Tryz.prog 35 #[.slice A xs.length c, i.val] w (EsEnd (prnL (xs.map GV.e) i) w) := by
  have H1 := Lib.hid h1
  have HST : Hid (∀ k (hk : k < xs.length), prnL ((xs.map GV.e).take (k + 1)) i = prnL ((xs.map GV.e).take k) i ++ if !hasI xs[k].e.node.path i then [xs[k].e] else []) := Lib.hid fun k hk => by
    rw [take_map GV.e xs hk]
    unfold prnL
    rw [List.filter_append]
    congr 1
    cases h : !hasI xs[k].e.node.path i <;> simp [h]
  have HLN : Hid (∀ k, (prnL ((xs.map GV.e).take k) i).length ≤ k) := Lib.hid fun k => by unfold prnL; exact Nat.le_trans (List.length_filter_le _ _) (by simp; omega)
  have HMEM : Hid (∀ k, ∀ e ∈ prnL ((xs.map GV.e).take k) i, e.node.path.length ≤ 17179869184) := Lib.hid fun k e he => by
    unfold prnL at he
    obtain ⟨x, hx, rfl⟩ := List.mem_map.1 (List.mem_of_mem_take (List.mem_filter.1 he).1)
    exact hp x hx
  have HALL : Hid (prnL ((xs.map GV.e).take xs.length) i = prnL (xs.map GV.e) i) := Lib.hid (by rw [List.take_of_length_le (by simp)])
  have HD0 : Hid (prnL ((xs.map GV.e).take 0) i = []) := Lib.hid (by simp [prnL])
  have HEND : Hid (∀ v ys W, EOwn W w.heap.size v ys → ys.map GV.e = prnL (xs.map GV.e) i → Below w.heap.size w W → EsEnd (prnL (xs.map GV.e) i) w (.returned v) W) := Lib.hid fun v ys W h1 h2 h3 => ⟨v, ys, rfl, h1, h2, h3⟩
  have HHL := Lib.hid fun k (hk : k < xs.length) W (hW : Below w.heap.size w W) => rHas_any xs[k].e.node.path xs[k].A xs[k].c i W ((h1.pth _ (List.getElem_mem hk)).1.next hW) (hp _ (List.getElem_mem hk))
  have HX := Lib.hid (IB.new w i)
  have HB0 := Lib.hid (belt (Below.refl _ w) (.cells #[.int .i64 i.core, .int .i64 i.op, .int .i64 i.part] 25))
  generalize EsEnd (prnL (xs.map GV.e) i) w = EE at *
  generalize prnL (xs.map GV.e) i = RL at *
  obtain ⟨D, hD⟩ : ∃ D : Nat → List GE, ∀ k, prnL ((xs.map GV.e).take k) i = D k := ⟨_, fun _ => rfl⟩
  simp only [hD] at HST HLN HALL HD0 HMEM
  clear h1 hp hD
  obtain ⟨j0, j1, j2⟩ := i
  simp only [GId.val] at *
  go_enter Tryz.func35, Tryz.ntmps35
  go_wp2
  generalize w.alloc (.cells #[.int .i64 j0, .int .i64 j1, .int .i64 j2] 25) = wI at *
  go_loopw [5, 6] (fun v5 vi wr => ∃ (k : Nat) (ys : List GV), vi = .int .i64 k ∧ k ≤ xs.length ∧ Hid (ys.map GV.e = D k) ∧ Hid (EOwn wr wI.heap.size v5 ys) ∧ Hid (Below wI.heap.size wI wr)) (fun _ vi _ => xs.length - (intOf vi).toNat)
  case atStart => exact ⟨0, [], rfl, Nat.zero_le _, Lib.hid (by rw [HD0.out]; rfl), Lib.hid (EOwn.nil _ _), Lib.hid (Below.refl _ _)⟩
  case round =>
    obtain ⟨k, ys, rfl, hk, HT, HO, HB⟩ := hrel
    have HBw := Lib.hid (beln HB0.out HB.out)
    have HYL : Hid (ys.length ≤ k) := Lib.hid (by have := congrArg List.length HT.out; have := HLN.out k; simp at *; omega)
    obtain ⟨An, cn, rfl, hcn, hmn, hrn⟩ := HO.out.erow
    rcases Nat.lt_or_ge k xs.length with hlt | hge
    · clear hcn hmn hrn
      obtain ⟨b1, o1, rfl, hb1, ⟨x0, x1, x2, x3, x4, x5, x6, x7, x8, x9, x10, x11, x12⟩⟩ := (H1.out.next HBw.out).row.gev hlt
      have HSK := Lib.hid (HST.out k hlt)
      have HPX := Lib.hid (H1.out.pth _ (List.getElem_mem hlt))
      have HHK := Lib.hid fun W (hW : Below wr.heap.size wr W) => HHL.out k hlt W (beln HBw.out hW)
      generalize hasI xs[k].e.node.path ⟨j0, j1, j2⟩ = b at *
      generalize xs[k] = x at *
      obtain ⟨⟨xc, xs', ⟨⟨i0, i1, i2⟩, xp, ⟨a0, a1, a2, a3, a4, a5, a6⟩⟩⟩, xA, xcp⟩ := x
      simp only at x0 x1 x2 x3 x4 x5 x6 x7 x8 x9 x10 x11 x12 HSK HHK
      obtain ⟨y0, y1, y2⟩ := (HX.out.next HB.out).cells
      have hXl := (HX.out.next HB.out).lt
      simp only at y0 y1 y2
      have hk0 : 0 ≤ (k : Int) := by omega
      have hk1 : (k : Int) < (xs.length : Int) := by omega
      have hk2 : (k : Int).toNat = k := by omega
      go_upto_region 5 with fail
      have hS := (Below.refl wr.heap.size wr).drew
      refine wp_region_growS (S := fun W => Below wr.heap.size wr W) [(0, true), (1, true), (2, true), (3, true), (4, true), (5, true), (6, true), (7, false), (8, true)] (by kernel_rfl) (by kernel_rfl) (by kernel_rfl) (by kernel_rfl) (by intro c a d v w h; cases d <;> exact h) hS ?_
      iterate 7
        (first
          | (refine wpGrowS_float (v := ?_) (by simp only [List.getElem?_toArray, List.getElem?_cons_succ, List.getElem?_cons_zero]; rfl) (by rfl) ?_ ?_
             rotate_left
             · (intro W hW; have t2 := (hW.cell (p := ⟨b1, o1 + k * 13 + 2, none⟩) hb1).trans x2; have t3 := (hW.cell (p := ⟨b1, o1 + k * 13 + 3, none⟩) hb1).trans x3; have t4 := (hW.cell (p := ⟨b1, o1 + k * 13 + 4, none⟩) hb1).trans x4; have t5 := (hW.cell (p := ⟨b1, o1 + k * 13 + 5, none⟩) hb1).trans x5; have t6 := (hW.cell (p := ⟨b1, o1 + k * 13 + 6, none⟩) hb1).trans x6; have t7 := (hW.cell (p := ⟨b1, o1 + k * 13 + 7, none⟩) hb1).trans x7; have t8 := (hW.cell (p := ⟨b1, o1 + k * 13 + 8, none⟩) hb1).trans x8; have t9 := (hW.cell (p := ⟨b1, o1 + k * 13 + 9, none⟩) hb1).trans x9; have t10 := (hW.cell (p := ⟨b1, o1 + k * 13 + 10, none⟩) hb1).trans x10; have t11 := (hW.cell (p := ⟨b1, o1 + k * 13 + 11, none⟩) hb1).trans x11; have t12 := (hW.cell (p := ⟨b1, o1 + k * 13 + 12, none⟩) hb1).trans x12; have u0 := (hW.cell (p := ⟨w.heap.size, 0, none⟩) hXl).trans y0; have u1 := (hW.cell (p := ⟨w.heap.size, 1, none⟩) hXl).trans y1; have u2 := (hW.cell (p := ⟨w.heap.size, 2, none⟩) hXl).trans y2; (try simp only at *); go_simp; try with_reducible rfl)
             simp only [Act.put, List.setIfInBounds_toArray, List.set_cons_zero, List.set_cons_succ])
          | (refine wpGrowS_skip (by simp only [List.getElem?_toArray, List.getElem?_cons_succ, List.getElem?_cons_zero]; rfl) (by rfl) ?_
             simp only [Act.put, List.setIfInBounds_toArray, List.set_cons_zero, List.set_cons_succ]))
      refine wpGrowS_call (by simp only [List.getElem?_toArray, List.getElem?_cons_succ, List.getElem?_cons_zero]; rfl) (by rfl) fun K hK => ?_
      go_simp
      go_fit (HHK.out _ hS)
      rintro e wn ⟨rfl, hbn⟩
      have hSp := hS
      have hS : Below wr.heap.size wr wn := beln hS hbn
      go_simp
      refine hK _ _ hS ?_
      clear hK K
      try simp only [Act.put, List.setIfInBounds_toArray, List.set_cons_zero, List.set_cons_succ]
      iterate 1
        (first
          | (refine wpGrowS_float (v := ?_) (by simp only [List.getElem?_toArray, List.getElem?_cons_succ, List.getElem?_cons_zero]; rfl) (by rfl) ?_ ?_
             rotate_left
             · (intro W hW; have t2 := (hW.cell (p := ⟨b1, o1 + k * 13 + 2, none⟩) hb1).trans x2; have t3 := (hW.cell (p := ⟨b1, o1 + k * 13 + 3, none⟩) hb1).trans x3; have t4 := (hW.cell (p := ⟨b1, o1 + k * 13 + 4, none⟩) hb1).trans x4; have t5 := (hW.cell (p := ⟨b1, o1 + k * 13 + 5, none⟩) hb1).trans x5; have t6 := (hW.cell (p := ⟨b1, o1 + k * 13 + 6, none⟩) hb1).trans x6; have t7 := (hW.cell (p := ⟨b1, o1 + k * 13 + 7, none⟩) hb1).trans x7; have t8 := (hW.cell (p := ⟨b1, o1 + k * 13 + 8, none⟩) hb1).trans x8; have t9 := (hW.cell (p := ⟨b1, o1 + k * 13 + 9, none⟩) hb1).trans x9; have t10 := (hW.cell (p := ⟨b1, o1 + k * 13 + 10, none⟩) hb1).trans x10; have t11 := (hW.cell (p := ⟨b1, o1 + k * 13 + 11, none⟩) hb1).trans x11; have t12 := (hW.cell (p := ⟨b1, o1 + k * 13 + 12, none⟩) hb1).trans x12; have u0 := (hW.cell (p := ⟨w.heap.size, 0, none⟩) hXl).trans y0; have u1 := (hW.cell (p := ⟨w.heap.size, 1, none⟩) hXl).trans y1; have u2 := (hW.cell (p := ⟨w.heap.size, 2, none⟩) hXl).trans y2; (try simp only at *); go_simp; try with_reducible rfl)
             simp only [Act.put, List.setIfInBounds_toArray, List.set_cons_zero, List.set_cons_succ])
          | (refine wpGrowS_skip (by simp only [List.getElem?_toArray, List.getElem?_cons_succ, List.getElem?_cons_zero]; rfl) (by rfl) ?_
             simp only [Act.put, List.setIfInBounds_toArray, List.set_cons_zero, List.set_cons_succ]))
      refine wpGrowS_nil ?_
      have HBZ := Lib.hid (beln HB.out hS)
      have HO2 := Lib.hid (HO.out.next hS)
      have HPB : Hid (PW wn wI.heap.size ⟨⟨xc, xs', ⟨⟨i0, i1, i2⟩, xp, ⟨a0, a1, a2, a3, a4, a5, a6⟩⟩⟩, xA, xcp⟩) := Lib.hid (by
        have h := HPX.out
        refine ⟨fun h0 => ?_, h.2⟩
        obtain ⟨b', o', e', hb', hc'⟩ := h.1 h0
        have hw := HB0.out.size
        exact ⟨b', o', e', by omega, fun i hi j u hu => (((beln HBw.out hS)).cell (p := ⟨b', o' + (i * 3 + j), none⟩) hb').trans (hc' i hi j u hu)⟩)
      have HPZ : Hid (PW wn wn.heap.size ⟨⟨xc, xs', ⟨⟨i0, i1, i2⟩, xp, ⟨a0, a1, a2, a3, a4, a5, a6⟩⟩⟩, xA, xcp⟩) := Lib.hid (HPX.out.next (beln HBw.out hS))
      obtain ⟨z0, z1, z2, z3, z4, z5, z6, z7, z8, z9, z10, z11, z12⟩ := (show EVF wr b1 (o1 + k * 13) ⟨⟨xc, xs', ⟨⟨i0, i1, i2⟩, xp, ⟨a0, a1, a2, a3, a4, a5, a6⟩⟩⟩, xA, xcp⟩ from ⟨x0, x1, x2, x3, x4, x5, x6, x7, x8, x9, x10, x11, x12⟩).next hb1 hS
      simp only at z0 z1 z2 z3 z4 z5 z6 z7 z8 z9 z10 z11 z12
      clear hS x0 x1 x2 x3 x4 x5 x6 x7 x8 x9 x10 x11 x12 y0 y1 y2 HHK hk0 hk2 hXl
      rcases b with _ | _
      · have hpw : PW w w.heap.size ⟨⟨xc, xs', ⟨⟨i0, i1, i2⟩, xp, ⟨a0, a1, a2, a3, a4, a5, a6⟩⟩⟩, xA, xcp⟩ := HPX.out
        have hap : Apart (.slice An ys.length cn) ⟨⟨xc, xs', ⟨⟨i0, i1, i2⟩, xp, ⟨a0, a1, a2, a3, a4, a5, a6⟩⟩⟩, xA, xcp⟩ := Apart.below HO2.out.own (show PW wn wI.heap.size ⟨⟨xc, xs', ⟨⟨i0, i1, i2⟩, xp, ⟨a0, a1, a2, a3, a4, a5, a6⟩⟩⟩, xA, xcp⟩ from HPB.out)
        obtain ⟨v9, w9, hrun9, hown9, hb9⟩ := EOwn.snoc HO2.out HBZ.out _ HPZ.out hap (by have := HYL.out; omega)
        simp only at hrun9
        have HRUN := Lib.hid hrun9
        have HB9 := Lib.hid hb9
        have HO9 := Lib.hid hown9
        have HT9 : Hid ((ys ++ [(⟨⟨xc, xs', ⟨⟨i0, i1, i2⟩, xp, ⟨a0, a1, a2, a3, a4, a5, a6⟩⟩⟩, xA, xcp⟩ : GV)]).map GV.e = D (k + 1)) := Lib.hid (by rw [HSK.out, List.map_append, HT.out]; rfl)
        clear hrun9 hown9 hb9 hap hpw HPX HPB HPZ
        go_wp2_with (at_builtin; refine wpList_gapp HRUN.out rfl rfl rfl rfl rfl ?_)
        go_roundw
        case rel => exact ⟨k + 1, _, by go_num, by omega, HT9, HO9, HB9⟩
        case measure => simp [intOf]; omega

      · have HT9 : Hid (ys.map GV.e = D (k + 1)) := Lib.hid (by rw [HSK.out, HT.out]; simp)
        clear z0 z1 z2 z3 z4 z5 z6 z7 z8 z9 z10 z11 z12 HPX HPB HPZ
        go_wp2
        go_roundw
        case rel => exact ⟨k + 1, _, by go_num, by omega, HT9, HO2, HBZ⟩
        case measure => simp [intOf]; omega
    · obtain rfl : k = xs.length := by omega
      have HPY : Hid (∀ y ∈ ys, y.e.node.path.length ≤ 17179869184) := Lib.hid fun y hy => HMEM.out _ _ (by rw [← HT.out]; exact List.mem_map_of_mem hy)
      have HCP := Lib.hid (rCpE_any ys An cn wr hrn (by have := HYL.out; omega) HPY.out)
      have HMW : Hid (w.heap.size ≤ wr.heap.size) := Lib.hid HBw.out.size
      unfold EsEnd at HCP
      clear hcn hmn hrn hk hge
      go_wp2_with fail
      go_fit HCP.out
      rintro e w2 ⟨v2, zs, rfl, ho2, hm2, hb2⟩
      have HO2 := Lib.hid (ho2.low HMW.out)
      have HM2 : Hid (zs.map GV.e = RL) := Lib.hid (by rw [hm2, HT.out, HALL.out])
      have HB2 := Lib.hid (beln HBw.out hb2)
      clear ho2 hm2 hb2 HCP
      go_wp2
      exact HEND.out _ _ _ HO2.out HM2.out HB2.out
set_option maxRecDepth 20000 in
set_option maxHeartbeats 1000000 in
theorem rEvcE_any (xs : List GV) (A : Option Addr) (c : Nat) (i : Int) (w : World) (h1 : ERow w w.heap.size A xs) (hl : xs.length ≤ 100000) (hp : ∀ x ∈ xs, x.e.node.path.length ≤ 17179869184) :
    Calls Tryz.prog 37 #[.slice A xs.length c, .int .i64 i] w (EsEnd (evcL (xs.map GV.e) i) w) := by
  have H1 := Lib.hid h1
  have HST : Hid (∀ k (hk : k < xs.length), evcL ((xs.map GV.e).take (k + 1)) i = evcL ((xs.map GV.e).take k) i ++ if xs[k].e.core != i then [xs[k].e] else []) := Lib.hid fun k hk => by
    rw [take_map GV.e xs hk]
    unfold evcL
    rw [List.filter_append]
    congr 1
    cases h : xs[k].e.core != i <;> simp [h]
  have HLN : Hid (∀ k, (evcL ((xs.map GV.e).take k) i).length ≤ k) := Lib.hid fun k => by unfold evcL; exact Nat.le_trans (List.length_filter_le _ _) (by simp; omega)
  have HMEM : Hid (∀ k, ∀ e ∈ evcL ((xs.map GV.e).take k) i, e.node.path.length ≤ 17179869184) := Lib.hid fun k e he => by
    unfold evcL at he
    obtain ⟨x, hx, rfl⟩ := List.mem_map.1 (List.mem_of_mem_take (List.mem_filter.1 he).1)
    exact hp x hx
  have HALL : Hid (evcL ((xs.map GV.e).take xs.length) i = evcL (xs.map GV.e) i) := Lib.hid (by rw [List.take_of_length_le (by simp)])
  have HD0 : Hid (evcL ((xs.map GV.e).take 0) i = []) := Lib.hid (by simp [evcL])
  have HEND : Hid (∀ v ys W, EOwn W w.heap.size v ys → ys.map GV.e = evcL (xs.map GV.e) i → Below w.heap.size w W → EsEnd (evcL (xs.map GV.e) i) w (.returned v) W) := Lib.hid fun v ys W h1 h2 h3 => ⟨v, ys, rfl, h1, h2, h3⟩


  have HB0 := Lib.hid (Below.refl w.heap.size w)
  generalize EsEnd (evcL (xs.map GV.e) i) w = EE at *
  generalize evcL (xs.map GV.e) i = RL at *
  obtain ⟨D, hD⟩ : ∃ D : Nat → List GE, ∀ k, evcL ((xs.map GV.e).take k) i = D k := ⟨_, fun _ => rfl⟩
  simp only [hD] at HST HLN HALL HD0 HMEM
  clear h1 hp hD


  go_enter Tryz.func37, Tryz.ntmps37
  go_wp2

  go_loopw [5, 6] (fun v5 vi wr => ∃ (k : Nat) (ys : List GV), vi = .int .i64 k ∧ k ≤ xs.length ∧ Hid (ys.map GV.e = D k) ∧ Hid (EOwn wr w.heap.size v5 ys) ∧ Hid (Below w.heap.size w wr)) (fun _ vi _ => xs.length - (intOf vi).toNat)
  case atStart => exact ⟨0, [], rfl, Nat.zero_le _, Lib.hid (by rw [HD0.out]; rfl), Lib.hid (EOwn.nil _ _), Lib.hid (Below.refl _ _)⟩
  case round =>
    obtain ⟨k, ys, rfl, hk, HT, HO, HB⟩ := hrel
    have HBw := Lib.hid (beln HB0.out HB.out)
    have HYL : Hid (ys.length ≤ k) := Lib.hid (by have := congrArg List.length HT.out; have := HLN.out k; simp at *; omega)
    obtain ⟨An, cn, rfl, hcn, hmn, hrn⟩ := HO.out.erow
    rcases Nat.lt_or_ge k xs.length with hlt | hge
    · clear hcn hmn hrn
      obtain ⟨b1, o1, rfl, hb1, ⟨x0, x1, x2, x3, x4, x5, x6, x7, x8, x9, x10, x11, x12⟩⟩ := (H1.out.next HBw.out).row.gev hlt
      have HSK := Lib.hid (HST.out k hlt)
      have HPX := Lib.hid (H1.out.pth _ (List.getElem_mem hlt))
      generalize hx : xs[k] = x at *
      obtain ⟨⟨xc, xs', ⟨⟨i0, i1, i2⟩, xp, ⟨a0, a1, a2, a3, a4, a5, a6⟩⟩⟩, xA, xcp⟩ := x
      clear hx
      simp only at x0 x1 x2 x3 x4 x5 x6 x7 x8 x9 x10 x11 x12 HSK
      have HO2 := HO
      have HBZ := HB
      have HPB : Hid (PW wr w.heap.size ⟨⟨xc, xs', ⟨⟨i0, i1, i2⟩, xp, ⟨a0, a1, a2, a3, a4, a5, a6⟩⟩⟩, xA, xcp⟩) := Lib.hid (by
        have h := HPX.out
        refine ⟨fun h0 => ?_, h.2⟩
        obtain ⟨b', o', e', hb', hc'⟩ := h.1 h0
        exact ⟨b', o', e', hb', fun i hi j u hu => (HB.out.cell (p := ⟨b', o' + (i * 3 + j), none⟩) hb').trans (hc' i hi j u hu)⟩)
      have HPZ : Hid (PW wr wr.heap.size ⟨⟨xc, xs', ⟨⟨i0, i1, i2⟩, xp, ⟨a0, a1, a2, a3, a4, a5, a6⟩⟩⟩, xA, xcp⟩) := Lib.hid (HPX.out.next HB.out)
      by_cases hc : xc = i
      · have HT9 : Hid (ys.map GV.e = D (k + 1)) := Lib.hid (by rw [HSK.out, HT.out]; simp [hc])
        have f1 : (xc != i) = false := by simp [hc]
        clear HPX HPB HPZ hc
        go_wp2
        go_roundw
        case rel => exact ⟨k + 1, _, by go_num, by omega, HT9, HO2, HBZ⟩
        case measure => simp [intOf]; omega
      · have f1 : (xc != i) = true := by simpa using hc
        rw [f1] at HSK
        clear hc
        have hpw : PW w w.heap.size ⟨⟨xc, xs', ⟨⟨i0, i1, i2⟩, xp, ⟨a0, a1, a2, a3, a4, a5, a6⟩⟩⟩, xA, xcp⟩ := HPX.out
        have hap : Apart (.slice An ys.length cn) ⟨⟨xc, xs', ⟨⟨i0, i1, i2⟩, xp, ⟨a0, a1, a2, a3, a4, a5, a6⟩⟩⟩, xA, xcp⟩ := Apart.below HO2.out.own (show PW wr w.heap.size ⟨⟨xc, xs', ⟨⟨i0, i1, i2⟩, xp, ⟨a0, a1, a2, a3, a4, a5, a6⟩⟩⟩, xA, xcp⟩ from HPB.out)
        obtain ⟨v9, w9, hrun9, hown9, hb9⟩ := EOwn.snoc HO2.out HBZ.out _ HPZ.out hap (by have := HYL.out; omega)
        simp only at hrun9
        have HRUN := Lib.hid hrun9
        have HB9 := Lib.hid hb9
        have HO9 := Lib.hid hown9
        have HT9 : Hid ((ys ++ [(⟨⟨xc, xs', ⟨⟨i0, i1, i2⟩, xp, ⟨a0, a1, a2, a3, a4, a5, a6⟩⟩⟩, xA, xcp⟩ : GV)]).map GV.e = D (k + 1)) := Lib.hid (by rw [HSK.out, List.map_append, HT.out]; rfl)
        clear hrun9 hown9 hb9 hap hpw HPX HPB HPZ
        go_wp2_with (at_builtin; refine wpList_gapp HRUN.out rfl rfl rfl rfl rfl ?_)
        go_roundw
        case rel => exact ⟨k + 1, _, by go_num, by omega, HT9, HO9, HB9⟩
        case measure => simp [intOf]; omega

    · obtain rfl : k = xs.length := by omega
      have HPY : Hid (∀ y ∈ ys, y.e.node.path.length ≤ 17179869184) := Lib.hid fun y hy => HMEM.out _ _ (by rw [← HT.out]; exact List.mem_map_of_mem hy)
      have HCP := Lib.hid (rCpE_any ys An cn wr hrn (by have := HYL.out; omega) HPY.out)
      have HMW : Hid (w.heap.size ≤ wr.heap.size) := Lib.hid HBw.out.size
      unfold EsEnd at HCP
      clear hcn hmn hrn hk hge
      go_wp2_with fail
      go_fit HCP.out
      rintro e w2 ⟨v2, zs, rfl, ho2, hm2, hb2⟩
      have HO2 := Lib.hid (ho2.low HMW.out)
      have HM2 : Hid (zs.map GV.e = RL) := Lib.hid (by rw [hm2, HT.out, HALL.out])
      have HB2 := Lib.hid (beln HBw.out hb2)
      clear ho2 hm2 hb2 HCP
      go_wp2
      exact HEND.out _ _ _ HO2.out HM2.out HB2.out
theorem ge_dec (a b : GE) : decide (a = b) = (a.core == b.core && a.slot == b.slot && decide (a.node = b.node)) := by
  rw [Bool.eq_iff_iff]
  simp only [decide_eq_true_eq, Bool.and_eq_true, beq_iff_eq]
  cases a; cases b
  simp only [GE.mk.injEq]
  exact ⟨fun h => ⟨⟨h.1, h.2.1⟩, h.2.2⟩, fun h => ⟨h.1.1, h.1.2, h.2⟩⟩
set_option maxRecDepth 20000 in
set_option maxHeartbeats 2000000 in
theorem rSamE_any (xs ys : List GV) (A B : Option Addr) (c d : Nat) (w : World) (h1 : ERow w w.heap.size A xs) (h2 : ERow w w.heap.size B ys) (hl : xs.length ≤ 100000) (_ : ys.length ≤ 100000) (hp : ∀ x ∈ xs, x.e.node.path.length ≤ 17179869184) (hp2 : ∀ x ∈ ys, x.e.node.path.length ≤ 17179869184) (he : xs.map GV.e = ys.map GV.e) :
    Calls Tryz.prog 33 #[.slice A xs.length c, .slice B ys.length d] w fun e w' => e = .returned (.bool true) ∧ Below w.heap.size w w' := by
  have H1 := Lib.hid h1
  have H2 := Lib.hid h2
  have hlen : ys.length = xs.length := by have := congrArg List.length he; simpa using this.symm
  have HEE : Hid (∀ k (hk : k < xs.length) (hk2 : k < ys.length), xs[k].e = ys[k].e) := Lib.hid fun k hk hk2 => by
    have h := congrArg (fun l => l[k]?) he
    simp only [List.getElem?_map, List.getElem?_eq_getElem hk, List.getElem?_eq_getElem hk2, Option.map_some] at h
    exact Option.some.inj h
  have HSN := Lib.hid fun k (hk : k < xs.length) (hk2 : k < ys.length) W (hW : Below w.heap.size w W) => rSan_any xs[k].e.node ys[k].e.node xs[k].A ys[k].A xs[k].c ys[k].c W ((h1.pth _ (List.getElem_mem hk)).1.next hW) ((h2.pth _ (List.getElem_mem hk2)).1.next hW) (hp _ (List.getElem_mem hk)) (hp2 _ (List.getElem_mem hk2))
  clear h1 h2 hp hp2 he
  have HLE := Lib.hid hlen
  rw [hlen]
  clear hlen
  go_enter Tryz.func33, Tryz.ntmps33
  go_wp2
  go_loopw [5] (fun vi wr => ∃ k : Nat, vi = .int .i64 k ∧ k ≤ xs.length ∧ Hid (Below w.heap.size w wr)) (fun vi _ => xs.length - (intOf vi).toNat)
  case atStart => exact ⟨0, rfl, Nat.zero_le _, Lib.hid (Below.refl _ _)⟩
  case round =>
    obtain ⟨k, rfl, hk, HB⟩ := hrel
    rcases Nat.lt_or_ge k xs.length with hlt | hge
    · have hlt2 : k < ys.length := by have := HLE.out; omega
      obtain ⟨b1, o1, rfl, hb1, ⟨x0, x1, x2, x3, x4, x5, x6, x7, x8, x9, x10, x11, x12⟩⟩ := (H1.out.next HB.out).row.gev hlt
      obtain ⟨b2, o2, rfl, hb2, ⟨y0, y1, y2, y3, y4, y5, y6, y7, y8, y9, y10, y11, y12⟩⟩ := (H2.out.next HB.out).row.gev hlt2
      have HSK := Lib.hid fun W (hW : Below wr.heap.size wr W) => HSN.out k hlt hlt2 W (beln HB.out hW)
      have HQ := Lib.hid (HEE.out k hlt hlt2)
      generalize xs[k] = x at *
      generalize ys[k] = y at *
      obtain ⟨⟨xc, xs', ⟨⟨i0, i1, i2⟩, xp, ⟨a0, a1, a2, a3, a4, a5, a6⟩⟩⟩, xA, xcp⟩ := x
      obtain ⟨ye, yA, ycp⟩ := y
      have hq : ye = ⟨xc, xs', ⟨⟨i0, i1, i2⟩, xp, ⟨a0, a1, a2, a3, a4, a5, a6⟩⟩⟩ := HQ.out.symm
      subst hq
      unfold GN.val at HSK
      simp only [decide_true] at x0 x1 x2 x3 x4 x5 x6 x7 x8 x9 x10 x11 x12 y0 y1 y2 y3 y4 y5 y6 y7 y8 y9 y10 y11 y12 HSK
      have hk0 : 0 ≤ (k : Int) := by omega
      have hk1 : (k : Int) < (xs.length : Int) := by omega
      have hk2 : (k : Int).toNat = k := by omega
      have f1 : (xc != xc) = false := by simp
      have f2 : (xs' != xs') = false := by simp
      clear HQ
      go_upto_region 6 with fail
      have hS := (Below.refl wr.heap.size wr).drew
      refine wp_region_growS (S := fun W => Below wr.heap.size wr W) [(0, true), (1, true), (2, true), (3, true), (4, true), (5, true), (6, true), (7, true), (8, true), (9, true), (10, true), (11, true), (12, true), (13, true), (14, true), (15, true), (16, true), (17, true), (18, true), (19, true), (20, true), (21, true), (22, true), (23, true), (24, true), (25, true), (26, true), (27, true), (28, true), (29, true), (30, true), (31, true), (32, true), (33, true), (34, true), (35, false), (36, true), (37, true)] (by kernel_rfl) (by kernel_rfl) (by kernel_rfl) (by kernel_rfl) (by intro c a d v w h; cases d <;> exact h) hS ?_
      iterate 35
        (first
          | (refine wpGrowS_float (v := ?_) (by simp only [List.getElem?_toArray, List.getElem?_cons_succ, List.getElem?_cons_zero]; rfl) (by rfl) ?_ ?_
             rotate_left
             · (intro W hW; have s0 := (hW.cell (p := ⟨b1, o1 + k * 13, none⟩) hb1).trans x0; have s1 := (hW.cell (p := ⟨b1, o1 + k * 13 + 1, none⟩) hb1).trans x1; have s2 := (hW.cell (p := ⟨b1, o1 + k * 13 + 2, none⟩) hb1).trans x2; have s3 := (hW.cell (p := ⟨b1, o1 + k * 13 + 3, none⟩) hb1).trans x3; have s4 := (hW.cell (p := ⟨b1, o1 + k * 13 + 4, none⟩) hb1).trans x4; have s5 := (hW.cell (p := ⟨b1, o1 + k * 13 + 5, none⟩) hb1).trans x5; have s6 := (hW.cell (p := ⟨b1, o1 + k * 13 + 6, none⟩) hb1).trans x6; have s7 := (hW.cell (p := ⟨b1, o1 + k * 13 + 7, none⟩) hb1).trans x7; have s8 := (hW.cell (p := ⟨b1, o1 + k * 13 + 8, none⟩) hb1).trans x8; have s9 := (hW.cell (p := ⟨b1, o1 + k * 13 + 9, none⟩) hb1).trans x9; have s10 := (hW.cell (p := ⟨b1, o1 + k * 13 + 10, none⟩) hb1).trans x10; have s11 := (hW.cell (p := ⟨b1, o1 + k * 13 + 11, none⟩) hb1).trans x11; have s12 := (hW.cell (p := ⟨b1, o1 + k * 13 + 12, none⟩) hb1).trans x12; have t0 := (hW.cell (p := ⟨b2, o2 + k * 13, none⟩) hb2).trans y0; have t1 := (hW.cell (p := ⟨b2, o2 + k * 13 + 1, none⟩) hb2).trans y1; have t2 := (hW.cell (p := ⟨b2, o2 + k * 13 + 2, none⟩) hb2).trans y2; have t3 := (hW.cell (p := ⟨b2, o2 + k * 13 + 3, none⟩) hb2).trans y3; have t4 := (hW.cell (p := ⟨b2, o2 + k * 13 + 4, none⟩) hb2).trans y4; have t5 := (hW.cell (p := ⟨b2, o2 + k * 13 + 5, none⟩) hb2).trans y5; have t6 := (hW.cell (p := ⟨b2, o2 + k * 13 + 6, none⟩) hb2).trans y6; have t7 := (hW.cell (p := ⟨b2, o2 + k * 13 + 7, none⟩) hb2).trans y7; have t8 := (hW.cell (p := ⟨b2, o2 + k * 13 + 8, none⟩) hb2).trans y8; have t9 := (hW.cell (p := ⟨b2, o2 + k * 13 + 9, none⟩) hb2).trans y9; have t10 := (hW.cell (p := ⟨b2, o2 + k * 13 + 10, none⟩) hb2).trans y10; have t11 := (hW.cell (p := ⟨b2, o2 + k * 13 + 11, none⟩) hb2).trans y11; have t12 := (hW.cell (p := ⟨b2, o2 + k * 13 + 12, none⟩) hb2).trans y12; (try simp only at *); go_simp; try with_reducible rfl)
             simp only [Act.put, List.setIfInBounds_toArray, List.set_cons_zero, List.set_cons_succ])
          | (refine wpGrowS_skip (by simp only [List.getElem?_toArray, List.getElem?_cons_succ, List.getElem?_cons_zero]; rfl) (by rfl) ?_
             simp only [Act.put, List.setIfInBounds_toArray, List.set_cons_zero, List.set_cons_succ]))
      refine wpGrowS_call (by simp only [List.getElem?_toArray, List.getElem?_cons_succ, List.getElem?_cons_zero]; rfl) (by rfl) fun K hK => ?_
      go_simp
      go_fit (HSK.out _ hS)
      rintro e wn ⟨rfl, hbn⟩
      have hSp := hS
      have hS : Below wr.heap.size wr wn := beln hS hbn
      go_simp
      refine hK _ _ hS ?_
      clear hK K
      try simp only [Act.put, List.setIfInBounds_toArray, List.set_cons_zero, List.set_cons_succ]
      iterate 2
        (first
          | (refine wpGrowS_float (v := ?_) (by simp only [List.getElem?_toArray, List.getElem?_cons_succ, List.getElem?_cons_zero]; rfl) (by rfl) ?_ ?_
             rotate_left
             · (intro W hW; have s0 := (hW.cell (p := ⟨b1, o1 + k * 13, none⟩) hb1).trans x0; have s1 := (hW.cell (p := ⟨b1, o1 + k * 13 + 1, none⟩) hb1).trans x1; have s2 := (hW.cell (p := ⟨b1, o1 + k * 13 + 2, none⟩) hb1).trans x2; have s3 := (hW.cell (p := ⟨b1, o1 + k * 13 + 3, none⟩) hb1).trans x3; have s4 := (hW.cell (p := ⟨b1, o1 + k * 13 + 4, none⟩) hb1).trans x4; have s5 := (hW.cell (p := ⟨b1, o1 + k * 13 + 5, none⟩) hb1).trans x5; have s6 := (hW.cell (p := ⟨b1, o1 + k * 13 + 6, none⟩) hb1).trans x6; have s7 := (hW.cell (p := ⟨b1, o1 + k * 13 + 7, none⟩) hb1).trans x7; have s8 := (hW.cell (p := ⟨b1, o1 + k * 13 + 8, none⟩) hb1).trans x8; have s9 := (hW.cell (p := ⟨b1, o1 + k * 13 + 9, none⟩) hb1).trans x9; have s10 := (hW.cell (p := ⟨b1, o1 + k * 13 + 10, none⟩) hb1).trans x10; have s11 := (hW.cell (p := ⟨b1, o1 + k * 13 + 11, none⟩) hb1).trans x11; have s12 := (hW.cell (p := ⟨b1, o1 + k * 13 + 12, none⟩) hb1).trans x12; have t0 := (hW.cell (p := ⟨b2, o2 + k * 13, none⟩) hb2).trans y0; have t1 := (hW.cell (p := ⟨b2, o2 + k * 13 + 1, none⟩) hb2).trans y1; have t2 := (hW.cell (p := ⟨b2, o2 + k * 13 + 2, none⟩) hb2).trans y2; have t3 := (hW.cell (p := ⟨b2, o2 + k * 13 + 3, none⟩) hb2).trans y3; have t4 := (hW.cell (p := ⟨b2, o2 + k * 13 + 4, none⟩) hb2).trans y4; have t5 := (hW.cell (p := ⟨b2, o2 + k * 13 + 5, none⟩) hb2).trans y5; have t6 := (hW.cell (p := ⟨b2, o2 + k * 13 + 6, none⟩) hb2).trans y6; have t7 := (hW.cell (p := ⟨b2, o2 + k * 13 + 7, none⟩) hb2).trans y7; have t8 := (hW.cell (p := ⟨b2, o2 + k * 13 + 8, none⟩) hb2).trans y8; have t9 := (hW.cell (p := ⟨b2, o2 + k * 13 + 9, none⟩) hb2).trans y9; have t10 := (hW.cell (p := ⟨b2, o2 + k * 13 + 10, none⟩) hb2).trans y10; have t11 := (hW.cell (p := ⟨b2, o2 + k * 13 + 11, none⟩) hb2).trans y11; have t12 := (hW.cell (p := ⟨b2, o2 + k * 13 + 12, none⟩) hb2).trans y12; (try simp only at *); go_simp; try with_reducible rfl)
             simp only [Act.put, List.setIfInBounds_toArray, List.set_cons_zero, List.set_cons_succ])
          | (refine wpGrowS_skip (by simp only [List.getElem?_toArray, List.getElem?_cons_succ, List.getElem?_cons_zero]; rfl) (by rfl) ?_
             simp only [Act.put, List.setIfInBounds_toArray, List.set_cons_zero, List.set_cons_succ]))
      refine wpGrowS_nil ?_
      have HB2 := Lib.hid (beln HB.out hS)
      clear hS x0 x1 x2 x3 x4 x5 x6 x7 x8 x9 x10 x11 x12 y0 y1 y2 y3 y4 y5 y6 y7 y8 y9 y10 y11 y12 HSK hk0 hk2 f1 f2
      go_wp2
      go_roundw
      case rel => exact ⟨k + 1, by go_num, by omega, HB2⟩
      case measure => simp [intOf]; omega
    · go_wp2
      go_ret
      exact ⟨rfl, HB.out⟩
end Go.Proofs.YtndppbfdcceflaaGreatDoor


namespace Go.Proofs.YtndppbfdcceflaaGreatDoor
open Go.RowKit

/-- The path of an entry lies in block n or later. -/
def Frs (n : Nat) (y : GV) : Prop := 0 < y.e.node.path.length → ∀ b o, y.A = some ⟨b, o, none⟩ → n ≤ b
theorem Frs.own {W : World} {base n : Nat} {y : GV} (hp : OwnG GId.cells 25 3 W base (.slice y.A y.e.node.path.length y.c) y.e.node.path) (hn : n ≤ base) : Frs n y := fun _ b o hA => by
  rcases hp.2 with ⟨hv, _⟩ | ⟨g', c', cur, hv, hbs, _⟩
  · rw [hA] at hv; cases hv
  · rw [hA] at hv
    cases hv
    omega
theorem Apart.frs {W : World} {base : Nat} {v : Value} {xs : List GV} (h : OwnG GV.cells 32 13 W base v xs) {y : GV} (hf : Frs W.heap.size y) : Apart v y := fun h0 g b o hg hA e => by
  have h1 := hf h0 b o hA
  have h2 := (h.lt g hg).2
  omega
def EsEndF (es : List GE) (w : World) (e : Ending) (w' : World) : Prop := ∃ v ys, e = .returned v ∧ EOwn w' w.heap.size v ys ∧ ys.map GV.e = es ∧ (∀ y ∈ ys, Frs w.heap.size y) ∧ Below w.heap.size w w'
set_option maxRecDepth 20000 in
set_option maxHeartbeats 1000000 in
theorem rCpEF_any (xs : List GV) (A : Option Addr) (c : Nat) (w : World) (h1 : ERow w w.heap.size A xs) (hl : xs.length ≤ 900000) (hp : ∀ x ∈ xs, x.e.node.path.length ≤ 17179869184) :
    Calls Tryz.prog 17 #[.slice A xs.length c] w (EsEndF (xs.map GV.e) w) := by
  have H1 := Lib.hid h1
  have HC := Lib.hid fun k (hk : k < xs.length) W (hW : Below w.heap.size w W) => rCpnO_any xs[k].e.node xs[k].A xs[k].c W ((h1.pth _ (List.getElem_mem hk)).1.next hW) (hp _ (List.getElem_mem hk))
  have HTK := Lib.hid fun k (hk : k < xs.length) => take_map GV.e xs hk
  have HEND : Hid (∀ v ys W, EOwn W w.heap.size v ys → ys.map GV.e = xs.map GV.e → (∀ y ∈ ys, Frs w.heap.size y) → Below w.heap.size w W → EsEndF (xs.map GV.e) w (.returned v) W) := Lib.hid fun v ys W h1 h2 h3 h4 => ⟨v, ys, rfl, h1, h2, h3, h4⟩
  generalize EsEndF (xs.map GV.e) w = EE at *
  unfold CpyOwn GN.val at HC
  clear h1 hp
  go_enter Tryz.func17, Tryz.ntmps17
  go_wp2
  go_loopw [3, 4] (fun v3 v4 wr => ∃ (k : Nat) (ys : List GV), v4 = .int .i64 k ∧ k ≤ xs.length ∧ Hid (ys.map GV.e = (xs.map GV.e).take k) ∧ Hid (EOwn wr w.heap.size v3 ys) ∧ Hid (Below w.heap.size w wr) ∧ Hid (∀ y ∈ ys, Frs w.heap.size y)) (fun _ v4 _ => xs.length - (intOf v4).toNat)
  case atStart => exact ⟨0, [], rfl, Nat.zero_le _, Lib.hid rfl, Lib.hid (EOwn.nil _ _), Lib.hid (Below.refl _ _), Lib.hid fun y hy => by cases hy⟩
  case round =>
    obtain ⟨k, ys, rfl, hk, HT, HO, HB, HFR⟩ := hrel
    obtain ⟨An, cn, rfl, hcn, hmn, hrn⟩ := HO.out.erow
    have HYL : Hid (ys.length = k) := Lib.hid (by have := congrArg List.length HT.out; simp at this; omega)
    clear hcn hmn hrn
    rcases Nat.lt_or_ge k xs.length with hlt | hge
    · obtain ⟨b1, o1, rfl, hb1, ⟨x0, x1, x2, x3, x4, x5, x6, x7, x8, x9, x10, x11, x12⟩⟩ := H1.out.row.gev hlt
      have HTN := Lib.hid (HTK.out k hlt)
      have HCK := Lib.hid (HC.out k hlt)
      generalize xs[k] = x at *
      obtain ⟨⟨xc, xs', ⟨⟨i0, i1, i2⟩, xp, ⟨a0, a1, a2, a3, a4, a5, a6⟩⟩⟩, xA, xcp⟩ := x
      simp only at x0 x1 x2 x3 x4 x5 x6 x7 x8 x9 x10 x11 x12 HCK
      go_upto_region 5 with fail
      have hS : Below w.heap.size w wr.drew := HB.out.drew
      have hk0 : 0 ≤ (k : Int) := by omega
      have hk1 : (k : Int) < (xs.length : Int) := by omega
      have hk2 : (k : Int).toNat = k := by omega
      refine wp_region_growS (S := fun W => Below w.heap.size w W) [(0, true), (1, true), (2, true), (3, true), (4, true), (5, true), (6, true), (7, true), (8, true), (9, true), (10, true), (11, true), (12, true), (13, true), (14, true), (15, true), (16, false), (17, true), (18, false), (19, false), (20, true)] (by kernel_rfl) (by kernel_rfl) (by kernel_rfl) (by kernel_rfl) (by intro c a d v w h; cases d <;> exact h) hS ?_
      iterate 16
        (first
          | (refine wpGrowS_float (v := ?_) (by simp only [List.getElem?_toArray, List.getElem?_cons_succ, List.getElem?_cons_zero]; rfl) (by rfl) ?_ ?_
             rotate_left
             · (intro W hW; have t0 := (hW.cell (p := ⟨b1, o1 + k * 13, none⟩) hb1).trans x0; have t1 := (hW.cell (p := ⟨b1, o1 + k * 13 + 1, none⟩) hb1).trans x1; have t2 := (hW.cell (p := ⟨b1, o1 + k * 13 + 2, none⟩) hb1).trans x2; have t3 := (hW.cell (p := ⟨b1, o1 + k * 13 + 3, none⟩) hb1).trans x3; have t4 := (hW.cell (p := ⟨b1, o1 + k * 13 + 4, none⟩) hb1).trans x4; have t5 := (hW.cell (p := ⟨b1, o1 + k * 13 + 5, none⟩) hb1).trans x5; have t6 := (hW.cell (p := ⟨b1, o1 + k * 13 + 6, none⟩) hb1).trans x6; have t7 := (hW.cell (p := ⟨b1, o1 + k * 13 + 7, none⟩) hb1).trans x7; have t8 := (hW.cell (p := ⟨b1, o1 + k * 13 + 8, none⟩) hb1).trans x8; have t9 := (hW.cell (p := ⟨b1, o1 + k * 13 + 9, none⟩) hb1).trans x9; have t10 := (hW.cell (p := ⟨b1, o1 + k * 13 + 10, none⟩) hb1).trans x10; have t11 := (hW.cell (p := ⟨b1, o1 + k * 13 + 11, none⟩) hb1).trans x11; have t12 := (hW.cell (p := ⟨b1, o1 + k * 13 + 12, none⟩) hb1).trans x12; (try simp only at *); go_simp; try with_reducible rfl)
             simp only [Act.put, List.setIfInBounds_toArray, List.set_cons_zero, List.set_cons_succ])
          | (refine wpGrowS_skip (by simp only [List.getElem?_toArray, List.getElem?_cons_succ, List.getElem?_cons_zero]; rfl) (by rfl) ?_
             simp only [Act.put, List.setIfInBounds_toArray, List.set_cons_zero, List.set_cons_succ]))
      refine wpGrowS_call (by simp only [List.getElem?_toArray, List.getElem?_cons_succ, List.getElem?_cons_zero]; rfl) (by rfl) fun K hK => ?_
      go_simp
      go_fit (HCK.out _ hS)
      rintro e w2 ⟨A2, c2, rfl, hc2, ho2, hb2⟩
      have hS2 : Below w.heap.size w w2 := beln hS hb2
      have HO2 := Lib.hid ((HO.out.next (Below.refl _ wr).drew).next hb2)
      have hap : Apart (.slice An ys.length cn) ⟨⟨xc, xs', ⟨⟨i0, i1, i2⟩, xp, ⟨a0, a1, a2, a3, a4, a5, a6⟩⟩⟩, A2, c2⟩ := Apart.fresh (HO.out.next (Below.refl _ wr).drew).own ho2
      have hpw : PW w2 w2.heap.size ⟨⟨xc, xs', ⟨⟨i0, i1, i2⟩, xp, ⟨a0, a1, a2, a3, a4, a5, a6⟩⟩⟩, A2, c2⟩ := PW.own ho2 hc2
      obtain ⟨v9, w9, hrun9, hown9, hb9⟩ := EOwn.snoc HO2.out hS2 _ hpw hap (by have := HYL.out; omega)
      simp only at hrun9
      have HO9 := Lib.hid hown9
      have HFR9 : Hid (∀ y ∈ ys ++ [(⟨⟨xc, xs', ⟨⟨i0, i1, i2⟩, xp, ⟨a0, a1, a2, a3, a4, a5, a6⟩⟩⟩, A2, c2⟩ : GV)], Frs w.heap.size y) := Lib.hid fun y hy => by
        rcases List.mem_append.1 hy with h | h
        · exact HFR.out y h
        · rw [List.mem_singleton] at h
          subst h
          exact Frs.own ho2 HB.out.size
      have HT9 : Hid ((ys ++ [(⟨⟨xc, xs', ⟨⟨i0, i1, i2⟩, xp, ⟨a0, a1, a2, a3, a4, a5, a6⟩⟩⟩, A2, c2⟩ : GV)]).map GV.e = (xs.map GV.e).take (k + 1)) := Lib.hid (by rw [HTN.out, List.map_append, HT.out]; rfl)
      clear hown9 hap hpw ho2 hb2 hc2 HTN
      go_simp
      refine hK _ _ hS2 ?_
      clear hK K
      try simp only [Act.put, List.setIfInBounds_toArray, List.set_cons_zero, List.set_cons_succ]
      iterate 1
        (first
          | (refine wpGrowS_float (v := ?_) (by simp only [List.getElem?_toArray, List.getElem?_cons_succ, List.getElem?_cons_zero]; rfl) (by rfl) ?_ ?_
             rotate_left
             · (intro W hW; have t0 := (hW.cell (p := ⟨b1, o1 + k * 13, none⟩) hb1).trans x0; have t1 := (hW.cell (p := ⟨b1, o1 + k * 13 + 1, none⟩) hb1).trans x1; have t2 := (hW.cell (p := ⟨b1, o1 + k * 13 + 2, none⟩) hb1).trans x2; have t3 := (hW.cell (p := ⟨b1, o1 + k * 13 + 3, none⟩) hb1).trans x3; have t4 := (hW.cell (p := ⟨b1, o1 + k * 13 + 4, none⟩) hb1).trans x4; have t5 := (hW.cell (p := ⟨b1, o1 + k * 13 + 5, none⟩) hb1).trans x5; have t6 := (hW.cell (p := ⟨b1, o1 + k * 13 + 6, none⟩) hb1).trans x6; have t7 := (hW.cell (p := ⟨b1, o1 + k * 13 + 7, none⟩) hb1).trans x7; have t8 := (hW.cell (p := ⟨b1, o1 + k * 13 + 8, none⟩) hb1).trans x8; have t9 := (hW.cell (p := ⟨b1, o1 + k * 13 + 9, none⟩) hb1).trans x9; have t10 := (hW.cell (p := ⟨b1, o1 + k * 13 + 10, none⟩) hb1).trans x10; have t11 := (hW.cell (p := ⟨b1, o1 + k * 13 + 11, none⟩) hb1).trans x11; have t12 := (hW.cell (p := ⟨b1, o1 + k * 13 + 12, none⟩) hb1).trans x12; (try simp only at *); go_simp; try with_reducible rfl)
             simp only [Act.put, List.setIfInBounds_toArray, List.set_cons_zero, List.set_cons_succ])
          | (refine wpGrowS_skip (by simp only [List.getElem?_toArray, List.getElem?_cons_succ, List.getElem?_cons_zero]; rfl) (by rfl) ?_
             simp only [Act.put, List.setIfInBounds_toArray, List.set_cons_zero, List.set_cons_succ]))
      refine wpGrowS_call (by simp only [List.getElem?_toArray, List.getElem?_cons_succ, List.getElem?_cons_zero]; rfl) (by rfl) fun K hK => ?_
      go_simp
      refine hK _ _ (belt hS2 _) ?_
      clear hK K
      try simp only [Act.put, List.setIfInBounds_toArray, List.set_cons_zero, List.set_cons_succ]
      refine wpGrowS_call (by simp only [List.getElem?_toArray, List.getElem?_cons_succ, List.getElem?_cons_zero]; rfl) (by rfl) fun K hK => ?_
      refine oper_app10 (R := fun v W => v = v9 ∧ W = w9) ⟨v9, w9, hrun9, rfl, rfl⟩ rfl rfl rfl rfl ?_
      rintro v8 w8 ⟨rfl, rfl⟩
      refine hK _ _ hb9 ?_
      clear hK K
      try simp only [Act.put, List.setIfInBounds_toArray, List.set_cons_zero, List.set_cons_succ]
      iterate 1
        (first
          | (refine wpGrowS_float (v := ?_) (by simp only [List.getElem?_toArray, List.getElem?_cons_succ, List.getElem?_cons_zero]; rfl) (by rfl) ?_ ?_
             rotate_left
             · (intro W hW; have t0 := (hW.cell (p := ⟨b1, o1 + k * 13, none⟩) hb1).trans x0; have t1 := (hW.cell (p := ⟨b1, o1 + k * 13 + 1, none⟩) hb1).trans x1; have t2 := (hW.cell (p := ⟨b1, o1 + k * 13 + 2, none⟩) hb1).trans x2; have t3 := (hW.cell (p := ⟨b1, o1 + k * 13 + 3, none⟩) hb1).trans x3; have t4 := (hW.cell (p := ⟨b1, o1 + k * 13 + 4, none⟩) hb1).trans x4; have t5 := (hW.cell (p := ⟨b1, o1 + k * 13 + 5, none⟩) hb1).trans x5; have t6 := (hW.cell (p := ⟨b1, o1 + k * 13 + 6, none⟩) hb1).trans x6; have t7 := (hW.cell (p := ⟨b1, o1 + k * 13 + 7, none⟩) hb1).trans x7; have t8 := (hW.cell (p := ⟨b1, o1 + k * 13 + 8, none⟩) hb1).trans x8; have t9 := (hW.cell (p := ⟨b1, o1 + k * 13 + 9, none⟩) hb1).trans x9; have t10 := (hW.cell (p := ⟨b1, o1 + k * 13 + 10, none⟩) hb1).trans x10; have t11 := (hW.cell (p := ⟨b1, o1 + k * 13 + 11, none⟩) hb1).trans x11; have t12 := (hW.cell (p := ⟨b1, o1 + k * 13 + 12, none⟩) hb1).trans x12; (try simp only at *); go_simp; try with_reducible rfl)
             simp only [Act.put, List.setIfInBounds_toArray, List.set_cons_zero, List.set_cons_succ])
          | (refine wpGrowS_skip (by simp only [List.getElem?_toArray, List.getElem?_cons_succ, List.getElem?_cons_zero]; rfl) (by rfl) ?_
             simp only [Act.put, List.setIfInBounds_toArray, List.set_cons_zero, List.set_cons_succ]))
      refine wpGrowS_nil ?_
      have HB9 := Lib.hid hb9
      clear hS hS2 hb9 hrun9 x0 x1 x2 x3 x4 x5 x6 x7 x8 x9 x10 x11 x12 HCK hk0 hk1 hk2
      go_wp2
      go_roundw
      case rel => exact ⟨k + 1, _, by go_num, by omega, HT9, HO9, HB9, HFR9⟩
      case measure => simp [intOf]; omega
    · have HF : Hid (ys.map GV.e = xs.map GV.e) := Lib.hid (by rw [HT.out, List.take_of_length_le (by simpa using hge)])
      go_wp2
      exact HEND.out _ _ _ HO.out HF.out HFR.out HB.out
set_option maxRecDepth 20000 in
set_option maxHeartbeats 1000000 in
theorem rRemE_any (xs : List GV) (A : Option Addr) (c : Nat) (i : GId) (w : World) (h1 : ERow w w.heap.size A xs) (hcap : xs.length ≤ c) (hl : xs.length ≤ 10000) (hp : ∀ x ∈ xs, x.e.node.path.length ≤ 17179869184) :
    Calls Tryz.prog 32 #[.slice A xs.length c, i.val] w (OptEnd (remR (xs.map GV.e) i) (remB (xs.map GV.e) i) w) := by
  have HFI := Lib.hid fun W (hW : Below w.heap.size w W) => rFindE_any xs A c i W (h1.row.next hW) (by omega)
  have HX := Lib.hid (IB.new w i)
  have HB0 := Lib.hid (belt (Below.refl _ w) (.cells #[.int .i64 i.core, .int .i64 i.op, .int .i64 i.part] 25))
  rcases Int.lt_or_le (fidx (pid i) (xs.map GV.e)) 0 with hr | hr
  · have hb : remB (xs.map GV.e) i = false := by unfold remB; simp; omega
    have HEND : Hid (∀ W, Below w.heap.size w W → OptEnd (remR (xs.map GV.e) i) (remB (xs.map GV.e) i) w (.returned (.tuple #[.slice none 0 0, .bool false])) W) := Lib.hid fun W hW => by
      unfold remR
      rw [hb]
      exact ⟨_, [], rfl, EOwn.nil _ _, rfl, hW⟩
    generalize OptEnd (remR (xs.map GV.e) i) (remB (xs.map GV.e) i) w = EE at *
    generalize fidx (pid i) (xs.map GV.e) = r at *
    clear hb h1 hp
    obtain ⟨j0, j1, j2⟩ := i
    simp only [GId.val] at *
    obtain ⟨y0, y1, y2⟩ := HX.out.cells
    simp only at y0 y1 y2
    go_enter Tryz.func32, Tryz.ntmps32
    go_wp2_with fail
    go_fit (HFI.out _ HB0.out)
    rintro e w1 ⟨rfl, hb1⟩
    have HB1 := Lib.hid (beln HB0.out hb1)
    clear hb1 HFI y0 y1 y2
    go_wp2
    exact HEND.out _ HB1.out
  · obtain ⟨r, hr2⟩ := Int.eq_ofNat_of_zero_le hr
    have hb : remB (xs.map GV.e) i = true := by unfold remB; simpa using hr
    obtain ⟨hrl0, hfd, hf0⟩ := find_at hr2
    have hrl : r < xs.length := by simpa using hrl0
    have HK : Hid ((xs.take r).map GV.e ++ (xs.drop (r + 1)).map GV.e = remL (xs.map GV.e) i) := Lib.hid (by
      unfold remL remK
      rw [hf0, List.map_take, List.map_drop])
    have HEND : Hid (∀ v ys W, EOwn W w.heap.size v ys → ys.map GV.e = remL (xs.map GV.e) i → Below w.heap.size w W → OptEnd (remR (xs.map GV.e) i) (remB (xs.map GV.e) i) w (.returned (.tuple #[v, .bool true])) W) := Lib.hid fun v ys W h1 h2 h3 => by
      unfold remR
      rw [hb]
      exact ⟨v, ys, rfl, h1, h2, h3⟩
    rw [hr2] at HFI
    have HC1 := Lib.hid fun W (hW : Below w.heap.size w W) => rCpEF_any (xs.take r) A c W ((h1.next hW).take r) (by rw [List.length_take]; omega) (fun x hx => hp x (List.mem_of_mem_take hx))
    have HC2 := Lib.hid fun W (hW : Below w.heap.size w W) => rCpEF_any (xs.drop (r + 1)) (cutE A c (r + 1)) (c - (r + 1)) W ((h1.next hW).drop hcap (r + 1)) (by rw [List.length_drop]; omega) (fun x hx => hp x (List.mem_of_mem_drop hx))
    rw [show (xs.take r).length = r by rw [List.length_take]; omega] at HC1
    obtain ⟨nk, hnk⟩ : ∃ nk, nk = xs.length - (r + 1) := ⟨_, rfl⟩
    obtain ⟨ck, hck⟩ : ∃ ck, ck = c - (r + 1) := ⟨_, rfl⟩
    rw [show (xs.drop (r + 1)).length = nk by rw [List.length_drop, hnk], ← hck] at HC2
    have HT1 : Hid (∀ W : World, (Instr.sliceAt 22 (.slice A xs.length c) none (some (.int .i64 (r : Int))) none).run Tryz.prog W = .ok (.slice A r c) W) := Lib.hid fun W => run_takeE W A xs.length c r (by omega)
    have HT2 : Hid (∀ W : World, (Instr.slice 22 (.slice A xs.length c) none (some (.int .i64 (r : Int))) none).run Tryz.prog W = .ok (.slice A r c) W) := Lib.hid fun W => by
      have h := HT1.out W
      rw [run_sliceAt_slice _ _ _ _ _ _ ent_elem] at h
      exact h
    have HD1 : Hid (∀ W : World, (Instr.sliceAt 22 (.slice A xs.length c) (some (.int .i64 ((r : Int) + 1))) none none).run Tryz.prog W = .ok (.slice (cutE A c (r + 1)) nk ck) W) := Lib.hid fun W => by
      have h := run_dropE W A xs.length c (r + 1) (by omega)
      rw [hnk, hck]
      exact h
    have HD2 : Hid (∀ W : World, (Instr.slice 22 (.slice A xs.length c) (some (.int .i64 ((r : Int) + 1))) none none).run Tryz.prog W = .ok (.slice (cutE A c (r + 1)) nk ck) W) := Lib.hid fun W => by
      have h := HD1.out W
      rw [run_sliceAt_slice _ _ _ _ _ _ ent_elem] at h
      exact h
    have HW1 : Hid (IntKind.i64.wrap ((r : Int) + 1) = (r : Int) + 1) := Lib.hid (IntWalk.i64_in _ (by omega))
    generalize OptEnd (remR (xs.map GV.e) i) (remB (xs.map GV.e) i) w = EE at *
    unfold EsEndF at HC1 HC2
    clear hb hr hr2 h1 hp hnk hck hfd hf0
    generalize hii : i = ii at *
    obtain ⟨j0, j1, j2⟩ := ii
    simp only [GId.val] at *
    obtain ⟨y0, y1, y2⟩ := HX.out.cells
    simp only at y0 y1 y2
    go_enter Tryz.func32, Tryz.ntmps32
    go_wp2_with fail
    go_fit (HFI.out _ HB0.out)
    rintro e w1 ⟨rfl, hb1⟩
    have HB1 := Lib.hid (beln HB0.out hb1)
    clear hb1 HFI y0 y1 y2
    have hk3 : ¬ ((r : Int) < 0) := by omega
    go_upto_region 4 with fail
    have hS : Below w.heap.size w w1.drew := HB1.out.drew
    refine wp_region_growS (S := fun W => Below w.heap.size w W) [(0, true), (1, true), (2, true), (4, true), (5, true), (6, true), (7, true), (3, false), (8, false), (9, false), (10, true), (11, true)] (by kernel_rfl) (by kernel_rfl) (by kernel_rfl) (by kernel_rfl) (by intro c a d v w h; cases d <;> exact h) hS ?_
    iterate 7
      (first
        | (refine wpGrowS_float (v := ?_) (by simp only [List.getElem?_toArray, List.getElem?_cons_succ, List.getElem?_cons_zero]; rfl) (by rfl) ?_ ?_
           rotate_left
           · (intro W hW; have k1 := fun W => HT1.out W; have k2 := fun W => HT2.out W; have k3 := fun W => HD1.out W; have k4 := fun W => HD2.out W; have k5 := HW1.out; (try simp only at *); go_simp; try with_reducible rfl)
           simp only [Act.put, List.setIfInBounds_toArray, List.set_cons_zero, List.set_cons_succ])
        | (refine wpGrowS_skip (by simp only [List.getElem?_toArray, List.getElem?_cons_succ, List.getElem?_cons_zero]; rfl) (by rfl) ?_
           simp only [Act.put, List.setIfInBounds_toArray, List.set_cons_zero, List.set_cons_succ]))
    refine wpGrowS_call (by simp only [List.getElem?_toArray, List.getElem?_cons_succ, List.getElem?_cons_zero]; rfl) (by rfl) fun K hK => ?_
    go_simp
    go_fit (HC1.out _ hS)
    rintro e w2 ⟨v1, ys1, rfl, ho1, hm1, hf1, hb2⟩
    obtain ⟨A1, d1, rfl, _, _, _⟩ := ho1.erow
    have hS2 : Below w.heap.size w w2 := beln hS hb2
    go_simp
    refine hK _ _ hS2 ?_
    clear hK K
    try simp only [Act.put, List.setIfInBounds_toArray, List.set_cons_zero, List.set_cons_succ]
    refine wpGrowS_call (by simp only [List.getElem?_toArray, List.getElem?_cons_succ, List.getElem?_cons_zero]; rfl) (by rfl) fun K hK => ?_
    go_simp
    go_fit (HC2.out _ hS2)
    rintro e w3 ⟨v2, ys2, rfl, ho2, hm2, hf2, hb3⟩
    obtain ⟨A2, d2, rfl, _, _, hr2⟩ := ho2.erow
    have hS3 : Below w.heap.size w w3 := beln hS2 hb3
    have hl1 : ys1.length ≤ xs.length := by have := congrArg List.length hm1; simp at this; omega
    have hl2 : ys2.length ≤ xs.length := by have := congrArg List.length hm2; simp at this; omega
    have hbs : w.heap.size ≤ w1.drew.heap.size := hS.size
    obtain ⟨v9, w9, hrun9, hown9, hg9, _⟩ := EOwn.app (ho1.next hb3) d2 hr2 (fun y hy => Apart.frs ho1.own (hf2 y hy)) (by have h4 := hb2.size; have h5 := hb3.size; have h6 : w1.drew.heap.size = w1.heap.size := rfl; omega) (by omega)
    have hS9 : Below w.heap.size w w9 := hS3.grown hg9 hS3.size (fun g e => Nat.le_trans hbs ((ho1.next hb3).own.lt g e).1)
    have HO9 := Lib.hid (hown9.low hbs)
    have HM9 : Hid ((ys1 ++ ys2).map GV.e = remL (xs.map GV.e) ⟨j0, j1, j2⟩) := Lib.hid (by rw [List.map_append, hm1, hm2]; exact HK.out)
    clear ho1 hm1 hf1 hb2 ho2 hm2 hf2 hb3 hr2 hown9 hg9 hl1 hl2
    go_simp
    refine hK _ _ hS3 ?_
    clear hK K
    try simp only [Act.put, List.setIfInBounds_toArray, List.set_cons_zero, List.set_cons_succ]
    refine wpGrowS_call (by simp only [List.getElem?_toArray, List.getElem?_cons_succ, List.getElem?_cons_zero]; rfl) (by rfl) fun K hK => ?_
    refine oper_app10 (R := fun v W => v = v9 ∧ W = w9) ⟨v9, w9, hrun9, rfl, rfl⟩ rfl rfl rfl rfl ?_
    rintro v8 w8 ⟨rfl, rfl⟩
    refine hK _ _ hS9 ?_
    clear hK K
    try simp only [Act.put, List.setIfInBounds_toArray, List.set_cons_zero, List.set_cons_succ]
    iterate 2
      (first
        | (refine wpGrowS_float (v := ?_) (by simp only [List.getElem?_toArray, List.getElem?_cons_succ, List.getElem?_cons_zero]; rfl) (by rfl) ?_ ?_
           rotate_left
           · (intro W hW; have k1 := fun W => HT1.out W; have k2 := fun W => HT2.out W; have k3 := fun W => HD1.out W; have k4 := fun W => HD2.out W; have k5 := HW1.out; (try simp only at *); go_simp; try with_reducible rfl)
           simp only [Act.put, List.setIfInBounds_toArray, List.set_cons_zero, List.set_cons_succ])
        | (refine wpGrowS_skip (by simp only [List.getElem?_toArray, List.getElem?_cons_succ, List.getElem?_cons_zero]; rfl) (by rfl) ?_
           simp only [Act.put, List.setIfInBounds_toArray, List.set_cons_zero, List.set_cons_succ]))
    refine wpGrowS_nil ?_
    have HB9 := Lib.hid hS9
    clear hS hS2 hS3 hS9 hrun9
    go_wp2
    exact HEND.out _ _ _ HO9.out HM9.out HB9.out
end Go.Proofs.YtndppbfdcceflaaGreatDoor


namespace Go.Proofs.YtndppbfdcceflaaGreatDoor
open Go.RowKit

theorem insK_lt {xs : List GV} {e : GE} {k : Nat} (hk : k < xs.length) : (k < insK (xs.map GV.e) e → ltI e.node.id xs[k].e.node.id = false) ∧ (k = insK (xs.map GV.e) e → ltI e.node.id xs[k].e.node.id = true) := by
  constructor
  · intro h
    have := List.not_of_lt_findIdx (p := plt e.node.id) (xs := xs.map GV.e) (i := k) h
    simpa [plt] using this
  · intro h
    have h2 : List.findIdx (plt e.node.id) (xs.map GV.e) < (xs.map GV.e).length := by
      unfold insK at h
      rw [← h]
      simpa using hk
    have h3 := List.findIdx_getElem (w := h2)
    unfold insK at h
    simp only [← h, List.getElem_map] at h3
    exact h3
set_option maxRecDepth 20000 in
set_option maxHeartbeats 2000000 in
theorem rInsE_any (xs : List GV) (A : Option Addr) (c : Nat) (x : GV) (w : World) (h1 : ERow w w.heap.size A xs) (hcap : xs.length ≤ c) (hx : PW w w.heap.size x) (hl : xs.length ≤ 10000) (hp : ∀ y ∈ xs, y.e.node.path.length ≤ 17179869184) (hpx : x.e.node.path.length ≤ 17179869184) :
    Calls Tryz.prog 30 #[.slice A xs.length c, x.val] w (OptEnd (insR (xs.map GV.e) x.e) (insB (xs.map GV.e) x.e) w) := by
  have HFI := Lib.hid fun W (hW : Below w.heap.size w W) => rFindE_any xs A c x.e.node.id W (h1.row.next hW) (by omega)
  have HAT := Lib.hid fun W (hW : Below w.heap.size w W) => rAtE_any xs A c x.e.core x.e.slot W (h1.row.next hW) (by omega)
  have HLL := Lib.hid fun (a b : GId) W => rLess_any a b W
  have HCN := Lib.hid fun W (hW : Below w.heap.size w W) => rCpnO_any x.e.node x.A x.c W (hx.1.next hW) hpx
  have HN := Lib.hid (EB.new w x)
  have HLE := Lib.hid (insK_le (xs.map GV.e) x.e)
  have HLT := Lib.hid fun k (hk : k < xs.length) => insK_lt (e := x.e) hk
  have HIB : Hid (insB (xs.map GV.e) x.e = (decide (fidx (pid x.e.node.id) (xs.map GV.e) < 0) && decide (fidx (pat x.e.core x.e.slot) (xs.map GV.e) < 0))) := Lib.hid rfl
  have HEND0 : Hid (insB (xs.map GV.e) x.e = false → ∀ W, Below w.heap.size w W → OptEnd (insR (xs.map GV.e) x.e) (insB (xs.map GV.e) x.e) w (.returned (.tuple #[.slice none 0 0, .bool false])) W) := Lib.hid fun hb W hW => by
    unfold insR
    rw [hb]
    exact ⟨_, [], rfl, EOwn.nil _ _, rfl, hW⟩
  have HEND1 : Hid (insB (xs.map GV.e) x.e = true → ∀ v ys W, EOwn W w.heap.size v ys → ys.map GV.e = insL (xs.map GV.e) x.e → Below w.heap.size w W → OptEnd (insR (xs.map GV.e) x.e) (insB (xs.map GV.e) x.e) w (.returned (.tuple #[v, .bool true])) W) := Lib.hid fun hb v ys W h1 h2 h3 => by
    unfold insR
    rw [hb]
    exact ⟨v, ys, rfl, h1, h2, h3⟩
  have HIL : Hid (insL (xs.map GV.e) x.e = (xs.map GV.e).take (insK (xs.map GV.e) x.e) ++ x.e :: (xs.map GV.e).drop (insK (xs.map GV.e) x.e)) := Lib.hid rfl
  rw [List.length_map] at HLE
  have HCA := Lib.hid fun k W (hk : k ≤ xs.length) (hW : Below w.heap.size w W) => rCpEF_any (xs.take k) A c W ((h1.next hW).take k) (by rw [List.length_take]; omega) (fun y hy => hp y (List.mem_of_mem_take hy))
  have HCB := Lib.hid fun k W (hk : k ≤ xs.length) (hW : Below w.heap.size w W) => rCpEF_any (xs.drop k) (cutE A c k) (c - k) W ((h1.next hW).drop hcap k) (by rw [List.length_drop]; omega) (fun y hy => hp y (List.mem_of_mem_drop hy))
  have H1 := Lib.hid h1
  generalize OptEnd (insR (xs.map GV.e) x.e) (insB (xs.map GV.e) x.e) w = EE at *
  generalize insL (xs.map GV.e) x.e = RL at *
  generalize hr1 : fidx (pid x.e.node.id) (xs.map GV.e) = r1 at *
  generalize hr2 : fidx (pat x.e.core x.e.slot) (xs.map GV.e) = r2 at *
  generalize insB (xs.map GV.e) x.e = ib at *
  generalize insK (xs.map GV.e) x.e = ki at *
  have HB0 := Lib.hid (show Below w.heap.size w (w.alloc (.cells x.cells.toArray 32)) from belt (Below.refl _ w) _)
  simp only [GV.cells] at HB0
  clear h1 hp hx hpx hr1 hr2
  obtain ⟨⟨xc, xs', ⟨⟨i0, i1, i2⟩, xp, ⟨a0, a1, a2, a3, a4, a5, a6⟩⟩⟩, xA, xcp⟩ := x
  unfold CpyOwn at HCN
  unfold GN.val at HCN
  unfold EsEndF at HCA HCB
  simp only [GV.val, GId.val] at *
  obtain ⟨g0, g1, g2, g3, g4, g5, g6, g7, g8, g9, g10, g11, g12⟩ := EBc HN.out
  simp only at g0 g1 g2 g3 g4 g5 g6 g7 g8 g9 g10 g11 g12
  go_enter Tryz.func30, Tryz.ntmps30
  go_wp2_with fail
  go_fit (HFI.out _ HB0.out)
  rintro e w1 ⟨rfl, hb1⟩
  have HB1 := Lib.hid (beln HB0.out hb1)
  have HN1 := Lib.hid (HN.out.next hb1)
  clear hb1 HFI HN HB0 g0 g1 g2 g3 g4 g5 g6 g7 g8 g9 g10 g11 g12
  obtain ⟨g0, g1, g2, g3, g4, g5, g6, g7, g8, g9, g10, g11, g12⟩ := EBc HN1.out
  simp only at g0 g1 g2 g3 g4 g5 g6 g7 g8 g9 g10 g11 g12
  rcases Int.lt_or_le r1 0 with hr1 | hr1
  rotate_left
  · have HF := Lib.hid (HEND0.out (by rw [HIB.out]; have : decide (r1 < 0) = false := by simp; omega
                                      rw [this]; rfl))
    have d1 : decide (0 ≤ r1) = true := by simpa using hr1
    clear hr1 HEND1 HIB
    go_wp2
    exact HF.out _ HB1.out
  have d1 : decide (0 ≤ r1) = false := by simp; omega
  go_wp2_with fail
  go_fit (HAT.out _ HB1.out)
  rintro e w2 ⟨rfl, hb2⟩
  have HB2 := Lib.hid (beln HB1.out hb2)
  have HN2 := Lib.hid (HN1.out.next hb2)
  clear hb2 HAT HN1 HB1 d1 g0 g1 g2 g3 g4 g5 g6 g7 g8 g9 g10 g11 g12
  rcases Int.lt_or_le r2 0 with hr2 | hr2
  rotate_left
  · have HF := Lib.hid (HEND0.out (by rw [HIB.out]; have : decide (r2 < 0) = false := by simp; omega
                                      rw [this, Bool.and_false]))
    have d1 : decide (0 ≤ r2) = true := by simpa using hr2
    clear hr1 hr2 HEND1 HIB
    go_wp2
    exact HF.out _ HB2.out
  have HF := Lib.hid (HEND1.out (by rw [HIB.out]; simp; omega))
  have d1 : decide (0 ≤ r2) = false := by simp; omega
  clear hr1 hr2 HEND0 HEND1 HIB
  have HKL := HLE
  clear HLE
  go_wp2
  clear d1
  go_loopw [6] (fun vi wr => ∃ k : Nat, vi = .int .i64 k ∧ k ≤ ki ∧ Hid (Below w.heap.size w wr) ∧ Hid (EB wr w.heap.size ⟨⟨xc, xs', ⟨⟨i0, i1, i2⟩, xp, ⟨a0, a1, a2, a3, a4, a5, a6⟩⟩⟩, xA, xcp⟩)) (fun vi _ => ki - (intOf vi).toNat)
  case atStart => exact ⟨0, rfl, Nat.zero_le _, HB2, HN2⟩
  case round =>
    obtain ⟨k, rfl, hk, HB, HN3⟩ := hrel
    have hkl := HKL.out
    obtain ⟨g0, g1, g2, g3, g4, g5, g6, g7, g8, g9, g10, g11, g12⟩ := EBc HN3.out
    have hgl := HN3.out.lt
    simp only at g0 g1 g2 g3 g4 g5 g6 g7 g8 g9 g10 g11 g12
    rcases Nat.lt_or_ge k ki with hlt | hge
    · have hkx : k < xs.length := by omega
      obtain ⟨b1, o1, rfl, hb1, ⟨_, _, x2, x3, x4, _, _, _, _, _, _, _, _⟩⟩ := (H1.out.next HB.out).row.gev hkx
      have hlf := (HLT.out k hkx).1 hlt
      have HLS := Lib.hid fun W => HLL.out ⟨i0, i1, i2⟩ xs[k].e.node.id W
      rw [hlf] at HLS
      clear hlf
      generalize xs[k].e.node.id = y at *
      obtain ⟨v0, v1, v2⟩ := y
      simp only at x2 x3 x4 HLS
      have hk0 : 0 ≤ (k : Int) := by omega
      have hk1 : (k : Int) < (xs.length : Int) := by omega
      have hk2 : (k : Int).toNat = k := by omega
      go_upto_region 4 with fail
      have hS := (Below.refl wr.heap.size wr).drew
      refine wp_region_growS (S := fun W => Below wr.heap.size wr W) [(0, true), (1, true), (2, true), (3, true), (4, true), (5, true), (6, true), (7, true), (8, true), (9, true), (10, true), (11, true), (12, true), (13, true), (14, false), (15, true), (16, true)] (by kernel_rfl) (by kernel_rfl) (by kernel_rfl) (by kernel_rfl) (by intro c a d v w h; cases d <;> exact h) hS ?_
      iterate 14
        (first
          | (refine wpGrowS_float (v := ?_) (by simp only [List.getElem?_toArray, List.getElem?_cons_succ, List.getElem?_cons_zero]; rfl) (by rfl) ?_ ?_
             rotate_left
             · (intro W hW; have t0 := (hW.cell (p := ⟨w.heap.size, 0, none⟩) hgl).trans g0; have t1 := (hW.cell (p := ⟨w.heap.size, 1, none⟩) hgl).trans g1; have t2 := (hW.cell (p := ⟨w.heap.size, 2, none⟩) hgl).trans g2; have t3 := (hW.cell (p := ⟨w.heap.size, 3, none⟩) hgl).trans g3; have t4 := (hW.cell (p := ⟨w.heap.size, 4, none⟩) hgl).trans g4; have t5 := (hW.cell (p := ⟨w.heap.size, 5, none⟩) hgl).trans g5; have t6 := (hW.cell (p := ⟨w.heap.size, 6, none⟩) hgl).trans g6; have t7 := (hW.cell (p := ⟨w.heap.size, 7, none⟩) hgl).trans g7; have t8 := (hW.cell (p := ⟨w.heap.size, 8, none⟩) hgl).trans g8; have t9 := (hW.cell (p := ⟨w.heap.size, 9, none⟩) hgl).trans g9; have t10 := (hW.cell (p := ⟨w.heap.size, 10, none⟩) hgl).trans g10; have t11 := (hW.cell (p := ⟨w.heap.size, 11, none⟩) hgl).trans g11; have t12 := (hW.cell (p := ⟨w.heap.size, 12, none⟩) hgl).trans g12; have s2 := (hW.cell (p := ⟨b1, o1 + k * 13 + 2, none⟩) hb1).trans x2; have s3 := (hW.cell (p := ⟨b1, o1 + k * 13 + 3, none⟩) hb1).trans x3; have s4 := (hW.cell (p := ⟨b1, o1 + k * 13 + 4, none⟩) hb1).trans x4; (try simp only at *); go_simp; try with_reducible rfl)
             simp only [Act.put, List.setIfInBounds_toArray, List.set_cons_zero, List.set_cons_succ])
          | (refine wpGrowS_skip (by simp only [List.getElem?_toArray, List.getElem?_cons_succ, List.getElem?_cons_zero]; rfl) (by rfl) ?_
             simp only [Act.put, List.setIfInBounds_toArray, List.set_cons_zero, List.set_cons_succ]))
      refine wpGrowS_call (by simp only [List.getElem?_toArray, List.getElem?_cons_succ, List.getElem?_cons_zero]; rfl) (by rfl) fun K hK => ?_
      go_simp
      go_fit (HLS.out _)
      rintro e wn ⟨rfl, hbn⟩
      have hSp := hS
      have hS : Below wr.heap.size wr wn := beln hS hbn
      go_simp
      refine hK _ _ hS ?_
      clear hK K
      try simp only [Act.put, List.setIfInBounds_toArray, List.set_cons_zero, List.set_cons_succ]
      iterate 2
        (first
          | (refine wpGrowS_float (v := ?_) (by simp only [List.getElem?_toArray, List.getElem?_cons_succ, List.getElem?_cons_zero]; rfl) (by rfl) ?_ ?_
             rotate_left
             · (intro W hW; have t0 := (hW.cell (p := ⟨w.heap.size, 0, none⟩) hgl).trans g0; have t1 := (hW.cell (p := ⟨w.heap.size, 1, none⟩) hgl).trans g1; have t2 := (hW.cell (p := ⟨w.heap.size, 2, none⟩) hgl).trans g2; have t3 := (hW.cell (p := ⟨w.heap.size, 3, none⟩) hgl).trans g3; have t4 := (hW.cell (p := ⟨w.heap.size, 4, none⟩) hgl).trans g4; have t5 := (hW.cell (p := ⟨w.heap.size, 5, none⟩) hgl).trans g5; have t6 := (hW.cell (p := ⟨w.heap.size, 6, none⟩) hgl).trans g6; have t7 := (hW.cell (p := ⟨w.heap.size, 7, none⟩) hgl).trans g7; have t8 := (hW.cell (p := ⟨w.heap.size, 8, none⟩) hgl).trans g8; have t9 := (hW.cell (p := ⟨w.heap.size, 9, none⟩) hgl).trans g9; have t10 := (hW.cell (p := ⟨w.heap.size, 10, none⟩) hgl).trans g10; have t11 := (hW.cell (p := ⟨w.heap.size, 11, none⟩) hgl).trans g11; have t12 := (hW.cell (p := ⟨w.heap.size, 12, none⟩) hgl).trans g12; have s2 := (hW.cell (p := ⟨b1, o1 + k * 13 + 2, none⟩) hb1).trans x2; have s3 := (hW.cell (p := ⟨b1, o1 + k * 13 + 3, none⟩) hb1).trans x3; have s4 := (hW.cell (p := ⟨b1, o1 + k * 13 + 4, none⟩) hb1).trans x4; (try simp only at *); go_simp; try with_reducible rfl)
             simp only [Act.put, List.setIfInBounds_toArray, List.set_cons_zero, List.set_cons_succ])
          | (refine wpGrowS_skip (by simp only [List.getElem?_toArray, List.getElem?_cons_succ, List.getElem?_cons_zero]; rfl) (by rfl) ?_
             simp only [Act.put, List.setIfInBounds_toArray, List.set_cons_zero, List.set_cons_succ]))
      refine wpGrowS_nil ?_
      have HB5 := Lib.hid (beln HB.out hS)
      have HN5 := Lib.hid (HN3.out.next hS)
      clear hS g0 g1 g2 g3 g4 g5 g6 g7 g8 g9 g10 g11 g12 x2 x3 x4 hk0 hk2 HLS
      go_wp2
      go_roundw
      case rel => exact ⟨k + 1, by go_num, by omega, HB5, HN5⟩
      case measure => simp [intOf]; omega
    · obtain rfl : k = ki := by omega
      clear hge hk
      rcases Nat.lt_or_ge k xs.length with hkx | hkx
      · obtain ⟨b1, o1, rfl, hb1, ⟨_, _, x2, x3, x4, _, _, _, _, _, _, _, _⟩⟩ := (H1.out.next HB.out).row.gev hkx
        have hlf := (HLT.out k hkx).2 rfl
        have HLS := Lib.hid fun W => HLL.out ⟨i0, i1, i2⟩ xs[k].e.node.id W
        rw [hlf] at HLS
        clear hlf
        generalize xs[k].e.node.id = y at *
        obtain ⟨v0, v1, v2⟩ := y
        simp only at x2 x3 x4 HLS
        have hk0 : 0 ≤ (k : Int) := by omega
        have hk1 : (k : Int) < (xs.length : Int) := by omega
        have hk2 : (k : Int).toNat = k := by omega
        go_upto_region 4 with fail
        have hS := (Below.refl wr.heap.size wr).drew
        refine wp_region_growS (S := fun W => Below wr.heap.size wr W) [(0, true), (1, true), (2, true), (3, true), (4, true), (5, true), (6, true), (7, true), (8, true), (9, true), (10, true), (11, true), (12, true), (13, true), (14, false), (15, true), (16, true)] (by kernel_rfl) (by kernel_rfl) (by kernel_rfl) (by kernel_rfl) (by intro c a d v w h; cases d <;> exact h) hS ?_
        iterate 14
          (first
            | (refine wpGrowS_float (v := ?_) (by simp only [List.getElem?_toArray, List.getElem?_cons_succ, List.getElem?_cons_zero]; rfl) (by rfl) ?_ ?_
               rotate_left
               · (intro W hW; have t0 := (hW.cell (p := ⟨w.heap.size, 0, none⟩) hgl).trans g0; have t1 := (hW.cell (p := ⟨w.heap.size, 1, none⟩) hgl).trans g1; have t2 := (hW.cell (p := ⟨w.heap.size, 2, none⟩) hgl).trans g2; have t3 := (hW.cell (p := ⟨w.heap.size, 3, none⟩) hgl).trans g3; have t4 := (hW.cell (p := ⟨w.heap.size, 4, none⟩) hgl).trans g4; have t5 := (hW.cell (p := ⟨w.heap.size, 5, none⟩) hgl).trans g5; have t6 := (hW.cell (p := ⟨w.heap.size, 6, none⟩) hgl).trans g6; have t7 := (hW.cell (p := ⟨w.heap.size, 7, none⟩) hgl).trans g7; have t8 := (hW.cell (p := ⟨w.heap.size, 8, none⟩) hgl).trans g8; have t9 := (hW.cell (p := ⟨w.heap.size, 9, none⟩) hgl).trans g9; have t10 := (hW.cell (p := ⟨w.heap.size, 10, none⟩) hgl).trans g10; have t11 := (hW.cell (p := ⟨w.heap.size, 11, none⟩) hgl).trans g11; have t12 := (hW.cell (p := ⟨w.heap.size, 12, none⟩) hgl).trans g12; have s2 := (hW.cell (p := ⟨b1, o1 + k * 13 + 2, none⟩) hb1).trans x2; have s3 := (hW.cell (p := ⟨b1, o1 + k * 13 + 3, none⟩) hb1).trans x3; have s4 := (hW.cell (p := ⟨b1, o1 + k * 13 + 4, none⟩) hb1).trans x4; (try simp only at *); go_simp; try with_reducible rfl)
               simp only [Act.put, List.setIfInBounds_toArray, List.set_cons_zero, List.set_cons_succ])
            | (refine wpGrowS_skip (by simp only [List.getElem?_toArray, List.getElem?_cons_succ, List.getElem?_cons_zero]; rfl) (by rfl) ?_
               simp only [Act.put, List.setIfInBounds_toArray, List.set_cons_zero, List.set_cons_succ]))
        refine wpGrowS_call (by simp only [List.getElem?_toArray, List.getElem?_cons_succ, List.getElem?_cons_zero]; rfl) (by rfl) fun K hK => ?_
        go_simp
        go_fit (HLS.out _)
        rintro e wn ⟨rfl, hbn⟩
        have hSp := hS
        have hS : Below wr.heap.size wr wn := beln hS hbn
        go_simp
        refine hK _ _ hS ?_
        clear hK K
        try simp only [Act.put, List.setIfInBounds_toArray, List.set_cons_zero, List.set_cons_succ]
        iterate 2
          (first
            | (refine wpGrowS_float (v := ?_) (by simp only [List.getElem?_toArray, List.getElem?_cons_succ, List.getElem?_cons_zero]; rfl) (by rfl) ?_ ?_
               rotate_left
               · (intro W hW; have t0 := (hW.cell (p := ⟨w.heap.size, 0, none⟩) hgl).trans g0; have t1 := (hW.cell (p := ⟨w.heap.size, 1, none⟩) hgl).trans g1; have t2 := (hW.cell (p := ⟨w.heap.size, 2, none⟩) hgl).trans g2; have t3 := (hW.cell (p := ⟨w.heap.size, 3, none⟩) hgl).trans g3; have t4 := (hW.cell (p := ⟨w.heap.size, 4, none⟩) hgl).trans g4; have t5 := (hW.cell (p := ⟨w.heap.size, 5, none⟩) hgl).trans g5; have t6 := (hW.cell (p := ⟨w.heap.size, 6, none⟩) hgl).trans g6; have t7 := (hW.cell (p := ⟨w.heap.size, 7, none⟩) hgl).trans g7; have t8 := (hW.cell (p := ⟨w.heap.size, 8, none⟩) hgl).trans g8; have t9 := (hW.cell (p := ⟨w.heap.size, 9, none⟩) hgl).trans g9; have t10 := (hW.cell (p := ⟨w.heap.size, 10, none⟩) hgl).trans g10; have t11 := (hW.cell (p := ⟨w.heap.size, 11, none⟩) hgl).trans g11; have t12 := (hW.cell (p := ⟨w.heap.size, 12, none⟩) hgl).trans g12; have s2 := (hW.cell (p := ⟨b1, o1 + k * 13 + 2, none⟩) hb1).trans x2; have s3 := (hW.cell (p := ⟨b1, o1 + k * 13 + 3, none⟩) hb1).trans x3; have s4 := (hW.cell (p := ⟨b1, o1 + k * 13 + 4, none⟩) hb1).trans x4; (try simp only at *); go_simp; try with_reducible rfl)
               simp only [Act.put, List.setIfInBounds_toArray, List.set_cons_zero, List.set_cons_succ])
            | (refine wpGrowS_skip (by simp only [List.getElem?_toArray, List.getElem?_cons_succ, List.getElem?_cons_zero]; rfl) (by rfl) ?_
               simp only [Act.put, List.setIfInBounds_toArray, List.set_cons_zero, List.set_cons_succ]))
        refine wpGrowS_nil ?_
        clear x2 x3 x4 HLS hb1
        have HBK := Lib.hid (beln HB.out hS)
        have HN4 := Lib.hid (HN3.out.next hS)
        clear hS HN3 HB g0 g1 g2 g3 g4 g5 g6 g7 g8 g9 g10 g11 g12 hgl
        generalize wn = w4 at *
        obtain ⟨g0, g1, g2, g3, g4, g5, g6, g7, g8, g9, g10, g11, g12⟩ := EBc HN4.out
        have hgl := HN4.out.lt
        simp only at g0 g1 g2 g3 g4 g5 g6 g7 g8 g9 g10 g11 g12
        have HC1 := Lib.hid fun W (hW : Below w.heap.size w W) => HCA.out k W hkl hW
        have HC2 := Lib.hid fun W (hW : Below w.heap.size w W) => HCB.out k W hkl hW
        rw [show (xs.take k).length = k by rw [List.length_take]; omega] at HC1
        obtain ⟨nk, hnk⟩ : ∃ nk, nk = xs.length - k := ⟨_, rfl⟩
        rw [show (xs.drop k).length = nk by rw [List.length_drop, hnk]] at HC2
        have HT1 : Hid (∀ W : World, (Instr.sliceAt 22 (.slice (some ⟨b1, o1, none⟩) xs.length c) none (some (.int .i64 (k : Int))) none).run Tryz.prog W = .ok (.slice (some ⟨b1, o1, none⟩) k c) W) := Lib.hid fun W => run_takeE W (some ⟨b1, o1, none⟩) xs.length c k (by omega)
        have HT2 : Hid (∀ W : World, (Instr.slice 22 (.slice (some ⟨b1, o1, none⟩) xs.length c) none (some (.int .i64 (k : Int))) none).run Tryz.prog W = .ok (.slice (some ⟨b1, o1, none⟩) k c) W) := Lib.hid fun W => by
          have h := HT1.out W
          rw [run_sliceAt_slice _ _ _ _ _ _ ent_elem] at h
          exact h
        have HD1 : Hid (∀ W : World, (Instr.sliceAt 22 (.slice (some ⟨b1, o1, none⟩) xs.length c) (some (.int .i64 (k : Int))) none none).run Tryz.prog W = .ok (.slice (cutE (some ⟨b1, o1, none⟩) c k) nk (c - k)) W) := Lib.hid fun W => by
          rw [hnk]
          exact run_dropE W (some ⟨b1, o1, none⟩) xs.length c k (by omega)
        have HD2 : Hid (∀ W : World, (Instr.slice 22 (.slice (some ⟨b1, o1, none⟩) xs.length c) (some (.int .i64 (k : Int))) none none).run Tryz.prog W = .ok (.slice (cutE (some ⟨b1, o1, none⟩) c k) nk (c - k)) W) := Lib.hid fun W => by
          have h := HD1.out W
          rw [run_sliceAt_slice _ _ _ _ _ _ ent_elem] at h
          exact h
        clear hnk HCA HCB
        go_upto_region 6 with fail
        have hS : Below w4.heap.size w4 w4.drew := (Below.refl _ w4).drew
        refine wp_region_growS (S := fun W => Below w4.heap.size w4 W) [(0, true), (1, true), (2, true), (4, true), (5, true), (6, true), (7, true), (8, true), (9, true), (3, false), (10, false), (11, true), (12, false), (13, false), (14, true)] (by kernel_rfl) (by kernel_rfl) (by kernel_rfl) (by kernel_rfl) (by intro c a d v w h; cases d <;> exact h) hS ?_
        iterate 9
          (first
            | (refine wpGrowS_float (v := ?_) (by simp only [List.getElem?_toArray, List.getElem?_cons_succ, List.getElem?_cons_zero]; rfl) (by rfl) ?_ ?_
               rotate_left
               · (intro W hW; have t0 := (hW.cell (p := ⟨w.heap.size, 0, none⟩) hgl).trans g0; have t1 := (hW.cell (p := ⟨w.heap.size, 1, none⟩) hgl).trans g1; have t2 := (hW.cell (p := ⟨w.heap.size, 2, none⟩) hgl).trans g2; have t3 := (hW.cell (p := ⟨w.heap.size, 3, none⟩) hgl).trans g3; have t4 := (hW.cell (p := ⟨w.heap.size, 4, none⟩) hgl).trans g4; have t5 := (hW.cell (p := ⟨w.heap.size, 5, none⟩) hgl).trans g5; have t6 := (hW.cell (p := ⟨w.heap.size, 6, none⟩) hgl).trans g6; have t7 := (hW.cell (p := ⟨w.heap.size, 7, none⟩) hgl).trans g7; have t8 := (hW.cell (p := ⟨w.heap.size, 8, none⟩) hgl).trans g8; have t9 := (hW.cell (p := ⟨w.heap.size, 9, none⟩) hgl).trans g9; have t10 := (hW.cell (p := ⟨w.heap.size, 10, none⟩) hgl).trans g10; have t11 := (hW.cell (p := ⟨w.heap.size, 11, none⟩) hgl).trans g11; have t12 := (hW.cell (p := ⟨w.heap.size, 12, none⟩) hgl).trans g12; have k1 := fun W => HT1.out W; have k2 := fun W => HT2.out W; (try simp only at *); go_simp; try with_reducible rfl)
               simp only [Act.put, List.setIfInBounds_toArray, List.set_cons_zero, List.set_cons_succ])
            | (refine wpGrowS_skip (by simp only [List.getElem?_toArray, List.getElem?_cons_succ, List.getElem?_cons_zero]; rfl) (by rfl) ?_
               simp only [Act.put, List.setIfInBounds_toArray, List.set_cons_zero, List.set_cons_succ]))
        refine wpGrowS_call (by simp only [List.getElem?_toArray, List.getElem?_cons_succ, List.getElem?_cons_zero]; rfl) (by rfl) fun K hK => ?_
        go_simp
        go_fit (HC1.out _ (beln HBK.out hS))
        rintro e w2 ⟨v1, ys1, rfl, ho1, hm1, hf1, hb2⟩
        obtain ⟨A1, e1, rfl, _, _, _⟩ := ho1.erow
        have hS2 := beln hS hb2
        go_simp
        refine hK _ _ hS2 ?_
        clear hK K
        try simp only [Act.put, List.setIfInBounds_toArray, List.set_cons_zero, List.set_cons_succ]
        refine wpGrowS_call (by simp only [List.getElem?_toArray, List.getElem?_cons_succ, List.getElem?_cons_zero]; rfl) (by rfl) fun K hK => ?_
        go_simp
        go_fit (HCN.out _ (beln HBK.out hS2))
        rintro e w3 ⟨A5, c5, rfl, hc5, ho5, hb3⟩
        have hS3 := beln hS2 hb3
        have hap : Apart (.slice A1 ys1.length e1) ⟨⟨xc, xs', ⟨⟨i0, i1, i2⟩, xp, ⟨a0, a1, a2, a3, a4, a5, a6⟩⟩⟩, A5, c5⟩ := Apart.fresh ho1.own ho5
        have hpw : PW w3 w3.heap.size ⟨⟨xc, xs', ⟨⟨i0, i1, i2⟩, xp, ⟨a0, a1, a2, a3, a4, a5, a6⟩⟩⟩, A5, c5⟩ := PW.own ho5 hc5
        have hl1 : ys1.length ≤ xs.length := by have := congrArg List.length hm1; simp at this; omega
        have HO3 := Lib.hid (ho1.next hb3)
        obtain ⟨v9, w9, hrun9, hown9, hb9⟩ := EOwn.snoc (w0 := w4.drew) HO3.out (beln hb2 hb3) _ hpw hap (by omega)
        obtain ⟨A9, c9, rfl, _, _, _⟩ := hown9.erow
        simp only at hrun9
        have hS9 : Below w4.heap.size w4 w9 := beln hS hb9
        have HO9 := Lib.hid (hown9.low (show w4.heap.size ≤ w4.drew.heap.size from Nat.le_refl _))
        have HM9 : Hid ((ys1 ++ [(⟨⟨xc, xs', ⟨⟨i0, i1, i2⟩, xp, ⟨a0, a1, a2, a3, a4, a5, a6⟩⟩⟩, A5, c5⟩ : GV)]).map GV.e = (xs.map GV.e).take k ++ [⟨xc, xs', ⟨⟨i0, i1, i2⟩, xp, ⟨a0, a1, a2, a3, a4, a5, a6⟩⟩⟩]) := Lib.hid (by rw [List.map_append, hm1, List.map_take]; rfl)
        have HL9 : Hid ((ys1 ++ [(⟨⟨xc, xs', ⟨⟨i0, i1, i2⟩, xp, ⟨a0, a1, a2, a3, a4, a5, a6⟩⟩⟩, A5, c5⟩ : GV)]).length ≤ xs.length + 1) := Lib.hid (by simp; omega)
        clear ho1 hm1 hf1 hb2 ho5 hb3 hap hpw hl1 hown9 hc5 hb9
        go_simp
        refine hK _ _ hS3 ?_
        clear hK K
        try simp only [Act.put, List.setIfInBounds_toArray, List.set_cons_zero, List.set_cons_succ]
        iterate 1
          (first
            | (refine wpGrowS_float (v := ?_) (by simp only [List.getElem?_toArray, List.getElem?_cons_succ, List.getElem?_cons_zero]; rfl) (by rfl) ?_ ?_
               rotate_left
               · (intro W hW; have t0 := (hW.cell (p := ⟨w.heap.size, 0, none⟩) hgl).trans g0; have t1 := (hW.cell (p := ⟨w.heap.size, 1, none⟩) hgl).trans g1; have t2 := (hW.cell (p := ⟨w.heap.size, 2, none⟩) hgl).trans g2; have t3 := (hW.cell (p := ⟨w.heap.size, 3, none⟩) hgl).trans g3; have t4 := (hW.cell (p := ⟨w.heap.size, 4, none⟩) hgl).trans g4; have t5 := (hW.cell (p := ⟨w.heap.size, 5, none⟩) hgl).trans g5; have t6 := (hW.cell (p := ⟨w.heap.size, 6, none⟩) hgl).trans g6; have t7 := (hW.cell (p := ⟨w.heap.size, 7, none⟩) hgl).trans g7; have t8 := (hW.cell (p := ⟨w.heap.size, 8, none⟩) hgl).trans g8; have t9 := (hW.cell (p := ⟨w.heap.size, 9, none⟩) hgl).trans g9; have t10 := (hW.cell (p := ⟨w.heap.size, 10, none⟩) hgl).trans g10; have t11 := (hW.cell (p := ⟨w.heap.size, 11, none⟩) hgl).trans g11; have t12 := (hW.cell (p := ⟨w.heap.size, 12, none⟩) hgl).trans g12; have k1 := fun W => HT1.out W; have k2 := fun W => HT2.out W; (try simp only at *); go_simp; try with_reducible rfl)
               simp only [Act.put, List.setIfInBounds_toArray, List.set_cons_zero, List.set_cons_succ])
            | (refine wpGrowS_skip (by simp only [List.getElem?_toArray, List.getElem?_cons_succ, List.getElem?_cons_zero]; rfl) (by rfl) ?_
               simp only [Act.put, List.setIfInBounds_toArray, List.set_cons_zero, List.set_cons_succ]))
        refine wpGrowS_call (by simp only [List.getElem?_toArray, List.getElem?_cons_succ, List.getElem?_cons_zero]; rfl) (by rfl) fun K hK => ?_
        go_simp
        refine hK _ _ (belt hS3 _) ?_
        clear hK K
        try simp only [Act.put, List.setIfInBounds_toArray, List.set_cons_zero, List.set_cons_succ]
        refine wpGrowS_call (by simp only [List.getElem?_toArray, List.getElem?_cons_succ, List.getElem?_cons_zero]; rfl) (by rfl) fun K hK => ?_
        refine oper_app10 (R := fun v W => v = (.slice A9 (ys1 ++ [(⟨⟨xc, xs', ⟨⟨i0, i1, i2⟩, xp, ⟨a0, a1, a2, a3, a4, a5, a6⟩⟩⟩, A5, c5⟩ : GV)]).length c9) ∧ W = w9) ⟨(.slice A9 (ys1 ++ [(⟨⟨xc, xs', ⟨⟨i0, i1, i2⟩, xp, ⟨a0, a1, a2, a3, a4, a5, a6⟩⟩⟩, A5, c5⟩ : GV)]).length c9), w9, hrun9, rfl, rfl⟩ rfl rfl rfl rfl ?_
        rintro v8 w8 ⟨rfl, rfl⟩
        refine hK _ _ hS9 ?_
        clear hK K
        try simp only [Act.put, List.setIfInBounds_toArray, List.set_cons_zero, List.set_cons_succ]
        iterate 1
          (first
            | (refine wpGrowS_float (v := ?_) (by simp only [List.getElem?_toArray, List.getElem?_cons_succ, List.getElem?_cons_zero]; rfl) (by rfl) ?_ ?_
               rotate_left
               · (intro W hW; have t0 := (hW.cell (p := ⟨w.heap.size, 0, none⟩) hgl).trans g0; have t1 := (hW.cell (p := ⟨w.heap.size, 1, none⟩) hgl).trans g1; have t2 := (hW.cell (p := ⟨w.heap.size, 2, none⟩) hgl).trans g2; have t3 := (hW.cell (p := ⟨w.heap.size, 3, none⟩) hgl).trans g3; have t4 := (hW.cell (p := ⟨w.heap.size, 4, none⟩) hgl).trans g4; have t5 := (hW.cell (p := ⟨w.heap.size, 5, none⟩) hgl).trans g5; have t6 := (hW.cell (p := ⟨w.heap.size, 6, none⟩) hgl).trans g6; have t7 := (hW.cell (p := ⟨w.heap.size, 7, none⟩) hgl).trans g7; have t8 := (hW.cell (p := ⟨w.heap.size, 8, none⟩) hgl).trans g8; have t9 := (hW.cell (p := ⟨w.heap.size, 9, none⟩) hgl).trans g9; have t10 := (hW.cell (p := ⟨w.heap.size, 10, none⟩) hgl).trans g10; have t11 := (hW.cell (p := ⟨w.heap.size, 11, none⟩) hgl).trans g11; have t12 := (hW.cell (p := ⟨w.heap.size, 12, none⟩) hgl).trans g12; have k1 := fun W => HT1.out W; have k2 := fun W => HT2.out W; (try simp only at *); go_simp; try with_reducible rfl)
               simp only [Act.put, List.setIfInBounds_toArray, List.set_cons_zero, List.set_cons_succ])
            | (refine wpGrowS_skip (by simp only [List.getElem?_toArray, List.getElem?_cons_succ, List.getElem?_cons_zero]; rfl) (by rfl) ?_
               simp only [Act.put, List.setIfInBounds_toArray, List.set_cons_zero, List.set_cons_succ]))
        refine wpGrowS_nil ?_
        have HB9 := Lib.hid (beln HBK.out hS9)
        have HBK4 : Hid (w.heap.size ≤ w4.heap.size) := Lib.hid HBK.out.size
        have HBS9 := Lib.hid hS9
        have hzl : (ys1 ++ [(⟨⟨xc, xs', ⟨⟨i0, i1, i2⟩, xp, ⟨a0, a1, a2, a3, a4, a5, a6⟩⟩⟩, A5, c5⟩ : GV)]).length = ys1.length + 1 := by simp
        generalize (ys1 ++ [(⟨⟨xc, xs', ⟨⟨i0, i1, i2⟩, xp, ⟨a0, a1, a2, a3, a4, a5, a6⟩⟩⟩, A5, c5⟩ : GV)]) = zs at *
        clear hS hS2 hS3 hS9 hrun9 g0 g1 g2 g3 g4 g5 g6 g7 g8 g9 g10 g11 g12 hgl HC1 HCN
        have k3 := fun W => HD1.out W
        have k4 := fun W => HD2.out W
        go_wp2_with fail
        go_fit (HC2.out _ HB9.out)
        rintro e w10 ⟨v2, ys2, rfl, ho2, hm2, hf2, hb10⟩
        obtain ⟨A2, e2, rfl, _, _, hr2⟩ := ho2.erow
        have hl2 : ys2.length ≤ xs.length := by have := congrArg List.length hm2; rw [List.length_map, List.length_map, List.length_drop] at this; omega
        obtain ⟨v11, w11, hrun11, hown11, hg11, _⟩ := EOwn.app (HO9.out.next hb10) e2 hr2 (fun y hy => Apart.frs HO9.out.own (hf2 y hy)) (by have h4 := HBS9.out.size; have h5 := hb10.size; omega) (by have := HL9.out; omega)
        rw [hzl] at hrun11
        have HRUN := Lib.hid hrun11
        have HOF := Lib.hid (hown11.low HBK4.out)
        have HMF : Hid ((zs ++ ys2).map GV.e = RL) := Lib.hid (by rw [List.map_append, HM9.out, hm2, HIL.out, List.map_drop]; simp)
        have HBF := Lib.hid ((beln HB9.out hb10).grown hg11 (beln HB9.out hb10).size (fun g e => Nat.le_trans HBK4.out ((HO9.out.next hb10).own.lt g e).1))
        clear hzl ho2 hm2 hf2 hb10 hr2 hl2 hrun11 hown11 hg11 k3 k4 HC2
        go_wp2_with (at_builtin; refine wpList_gapp HRUN.out rfl rfl rfl rfl rfl ?_)
        exact HF.out _ _ _ HOF.out HMF.out HBF.out
      · obtain rfl : k = xs.length := by omega
        have f1 : decide ((xs.length : Int) < (xs.length : Int)) = false := by simp
        go_upto_region 4 with fail
        have hS := (Below.refl wr.heap.size wr).drew
        refine wp_region_growS (S := fun W => Below wr.heap.size wr W) [(0, true), (1, true), (2, true), (3, true), (4, true), (5, true), (6, true), (7, true), (8, true), (9, true), (10, true), (11, true), (12, true), (13, true), (14, false), (15, true), (16, true)] (by kernel_rfl) (by kernel_rfl) (by kernel_rfl) (by kernel_rfl) (by intro c a d v w h; cases d <;> exact h) hS ?_
        iterate 14
          (first
            | (refine wpGrowS_float (v := ?_) (by simp only [List.getElem?_toArray, List.getElem?_cons_succ, List.getElem?_cons_zero]; rfl) (by rfl) ?_ ?_
               rotate_left
               · (intro W hW; have t0 := (hW.cell (p := ⟨w.heap.size, 0, none⟩) hgl).trans g0; have t1 := (hW.cell (p := ⟨w.heap.size, 1, none⟩) hgl).trans g1; have t2 := (hW.cell (p := ⟨w.heap.size, 2, none⟩) hgl).trans g2; have t3 := (hW.cell (p := ⟨w.heap.size, 3, none⟩) hgl).trans g3; have t4 := (hW.cell (p := ⟨w.heap.size, 4, none⟩) hgl).trans g4; have t5 := (hW.cell (p := ⟨w.heap.size, 5, none⟩) hgl).trans g5; have t6 := (hW.cell (p := ⟨w.heap.size, 6, none⟩) hgl).trans g6; have t7 := (hW.cell (p := ⟨w.heap.size, 7, none⟩) hgl).trans g7; have t8 := (hW.cell (p := ⟨w.heap.size, 8, none⟩) hgl).trans g8; have t9 := (hW.cell (p := ⟨w.heap.size, 9, none⟩) hgl).trans g9; have t10 := (hW.cell (p := ⟨w.heap.size, 10, none⟩) hgl).trans g10; have t11 := (hW.cell (p := ⟨w.heap.size, 11, none⟩) hgl).trans g11; have t12 := (hW.cell (p := ⟨w.heap.size, 12, none⟩) hgl).trans g12; (try simp only at *); go_simp; try with_reducible rfl)
               simp only [Act.put, List.setIfInBounds_toArray, List.set_cons_zero, List.set_cons_succ])
            | (refine wpGrowS_skip (by simp only [List.getElem?_toArray, List.getElem?_cons_succ, List.getElem?_cons_zero]; rfl) (by rfl) ?_
               simp only [Act.put, List.setIfInBounds_toArray, List.set_cons_zero, List.set_cons_succ]))
        refine wpGrowS_pass hS (by simp only [List.getElem?_toArray, List.getElem?_cons_succ, List.getElem?_cons_zero]; rfl) (by rfl) ?_
        try simp only [Act.put, List.setIfInBounds_toArray, List.set_cons_zero, List.set_cons_succ]
        iterate 2
          (first
            | (refine wpGrowS_float (v := ?_) (by simp only [List.getElem?_toArray, List.getElem?_cons_succ, List.getElem?_cons_zero]; rfl) (by rfl) ?_ ?_
               rotate_left
               · (intro W hW; have t0 := (hW.cell (p := ⟨w.heap.size, 0, none⟩) hgl).trans g0; have t1 := (hW.cell (p := ⟨w.heap.size, 1, none⟩) hgl).trans g1; have t2 := (hW.cell (p := ⟨w.heap.size, 2, none⟩) hgl).trans g2; have t3 := (hW.cell (p := ⟨w.heap.size, 3, none⟩) hgl).trans g3; have t4 := (hW.cell (p := ⟨w.heap.size, 4, none⟩) hgl).trans g4; have t5 := (hW.cell (p := ⟨w.heap.size, 5, none⟩) hgl).trans g5; have t6 := (hW.cell (p := ⟨w.heap.size, 6, none⟩) hgl).trans g6; have t7 := (hW.cell (p := ⟨w.heap.size, 7, none⟩) hgl).trans g7; have t8 := (hW.cell (p := ⟨w.heap.size, 8, none⟩) hgl).trans g8; have t9 := (hW.cell (p := ⟨w.heap.size, 9, none⟩) hgl).trans g9; have t10 := (hW.cell (p := ⟨w.heap.size, 10, none⟩) hgl).trans g10; have t11 := (hW.cell (p := ⟨w.heap.size, 11, none⟩) hgl).trans g11; have t12 := (hW.cell (p := ⟨w.heap.size, 12, none⟩) hgl).trans g12; (try simp only at *); go_simp; try with_reducible rfl)
               simp only [Act.put, List.setIfInBounds_toArray, List.set_cons_zero, List.set_cons_succ])
            | (refine wpGrowS_skip (by simp only [List.getElem?_toArray, List.getElem?_cons_succ, List.getElem?_cons_zero]; rfl) (by rfl) ?_
               simp only [Act.put, List.setIfInBounds_toArray, List.set_cons_zero, List.set_cons_succ]))
        refine wpGrowS_nil ?_
        clear f1
        have HBK := Lib.hid (beln HB.out hS)
        have HN4 := Lib.hid (HN3.out.next hS)
        clear hS HN3 HB g0 g1 g2 g3 g4 g5 g6 g7 g8 g9 g10 g11 g12 hgl
        generalize wr.drew = w4 at *
        obtain ⟨g0, g1, g2, g3, g4, g5, g6, g7, g8, g9, g10, g11, g12⟩ := EBc HN4.out
        have hgl := HN4.out.lt
        simp only at g0 g1 g2 g3 g4 g5 g6 g7 g8 g9 g10 g11 g12
        have HC1 := Lib.hid fun W (hW : Below w.heap.size w W) => HCA.out xs.length W hkl hW
        have HC2 := Lib.hid fun W (hW : Below w.heap.size w W) => HCB.out xs.length W hkl hW
        rw [show (xs.take xs.length).length = xs.length by rw [List.length_take]; omega] at HC1
        obtain ⟨nk, hnk⟩ : ∃ nk, nk = xs.length - xs.length := ⟨_, rfl⟩
        rw [show (xs.drop xs.length).length = nk by rw [List.length_drop, hnk]] at HC2
        have HT1 : Hid (∀ W : World, (Instr.sliceAt 22 (.slice A xs.length c) none (some (.int .i64 (xs.length : Int))) none).run Tryz.prog W = .ok (.slice A xs.length c) W) := Lib.hid fun W => run_takeE W A xs.length c xs.length (by omega)
        have HT2 : Hid (∀ W : World, (Instr.slice 22 (.slice A xs.length c) none (some (.int .i64 (xs.length : Int))) none).run Tryz.prog W = .ok (.slice A xs.length c) W) := Lib.hid fun W => by
          have h := HT1.out W
          rw [run_sliceAt_slice _ _ _ _ _ _ ent_elem] at h
          exact h
        have HD1 : Hid (∀ W : World, (Instr.sliceAt 22 (.slice A xs.length c) (some (.int .i64 (xs.length : Int))) none none).run Tryz.prog W = .ok (.slice (cutE A c xs.length) nk (c - xs.length)) W) := Lib.hid fun W => by
          rw [hnk]
          exact run_dropE W A xs.length c xs.length (by omega)
        have HD2 : Hid (∀ W : World, (Instr.slice 22 (.slice A xs.length c) (some (.int .i64 (xs.length : Int))) none none).run Tryz.prog W = .ok (.slice (cutE A c xs.length) nk (c - xs.length)) W) := Lib.hid fun W => by
          have h := HD1.out W
          rw [run_sliceAt_slice _ _ _ _ _ _ ent_elem] at h
          exact h
        clear hnk HCA HCB
        go_upto_region 6 with fail
        have hS : Below w4.heap.size w4 w4.drew := (Below.refl _ w4).drew
        refine wp_region_growS (S := fun W => Below w4.heap.size w4 W) [(0, true), (1, true), (2, true), (4, true), (5, true), (6, true), (7, true), (8, true), (9, true), (3, false), (10, false), (11, true), (12, false), (13, false), (14, true)] (by kernel_rfl) (by kernel_rfl) (by kernel_rfl) (by kernel_rfl) (by intro c a d v w h; cases d <;> exact h) hS ?_
        iterate 9
          (first
            | (refine wpGrowS_float (v := ?_) (by simp only [List.getElem?_toArray, List.getElem?_cons_succ, List.getElem?_cons_zero]; rfl) (by rfl) ?_ ?_
               rotate_left
               · (intro W hW; have t0 := (hW.cell (p := ⟨w.heap.size, 0, none⟩) hgl).trans g0; have t1 := (hW.cell (p := ⟨w.heap.size, 1, none⟩) hgl).trans g1; have t2 := (hW.cell (p := ⟨w.heap.size, 2, none⟩) hgl).trans g2; have t3 := (hW.cell (p := ⟨w.heap.size, 3, none⟩) hgl).trans g3; have t4 := (hW.cell (p := ⟨w.heap.size, 4, none⟩) hgl).trans g4; have t5 := (hW.cell (p := ⟨w.heap.size, 5, none⟩) hgl).trans g5; have t6 := (hW.cell (p := ⟨w.heap.size, 6, none⟩) hgl).trans g6; have t7 := (hW.cell (p := ⟨w.heap.size, 7, none⟩) hgl).trans g7; have t8 := (hW.cell (p := ⟨w.heap.size, 8, none⟩) hgl).trans g8; have t9 := (hW.cell (p := ⟨w.heap.size, 9, none⟩) hgl).trans g9; have t10 := (hW.cell (p := ⟨w.heap.size, 10, none⟩) hgl).trans g10; have t11 := (hW.cell (p := ⟨w.heap.size, 11, none⟩) hgl).trans g11; have t12 := (hW.cell (p := ⟨w.heap.size, 12, none⟩) hgl).trans g12; have k1 := fun W => HT1.out W; have k2 := fun W => HT2.out W; (try simp only at *); go_simp; try with_reducible rfl)
               simp only [Act.put, List.setIfInBounds_toArray, List.set_cons_zero, List.set_cons_succ])
            | (refine wpGrowS_skip (by simp only [List.getElem?_toArray, List.getElem?_cons_succ, List.getElem?_cons_zero]; rfl) (by rfl) ?_
               simp only [Act.put, List.setIfInBounds_toArray, List.set_cons_zero, List.set_cons_succ]))
        refine wpGrowS_call (by simp only [List.getElem?_toArray, List.getElem?_cons_succ, List.getElem?_cons_zero]; rfl) (by rfl) fun K hK => ?_
        go_simp
        go_fit (HC1.out _ (beln HBK.out hS))
        rintro e w2 ⟨v1, ys1, rfl, ho1, hm1, hf1, hb2⟩
        obtain ⟨A1, e1, rfl, _, _, _⟩ := ho1.erow
        have hS2 := beln hS hb2
        go_simp
        refine hK _ _ hS2 ?_
        clear hK K
        try simp only [Act.put, List.setIfInBounds_toArray, List.set_cons_zero, List.set_cons_succ]
        refine wpGrowS_call (by simp only [List.getElem?_toArray, List.getElem?_cons_succ, List.getElem?_cons_zero]; rfl) (by rfl) fun K hK => ?_
        go_simp
        go_fit (HCN.out _ (beln HBK.out hS2))
        rintro e w3 ⟨A5, c5, rfl, hc5, ho5, hb3⟩
        have hS3 := beln hS2 hb3
        have hap : Apart (.slice A1 ys1.length e1) ⟨⟨xc, xs', ⟨⟨i0, i1, i2⟩, xp, ⟨a0, a1, a2, a3, a4, a5, a6⟩⟩⟩, A5, c5⟩ := Apart.fresh ho1.own ho5
        have hpw : PW w3 w3.heap.size ⟨⟨xc, xs', ⟨⟨i0, i1, i2⟩, xp, ⟨a0, a1, a2, a3, a4, a5, a6⟩⟩⟩, A5, c5⟩ := PW.own ho5 hc5
        have hl1 : ys1.length ≤ xs.length := by have := congrArg List.length hm1; simp at this; omega
        have HO3 := Lib.hid (ho1.next hb3)
        obtain ⟨v9, w9, hrun9, hown9, hb9⟩ := EOwn.snoc (w0 := w4.drew) HO3.out (beln hb2 hb3) _ hpw hap (by omega)
        obtain ⟨A9, c9, rfl, _, _, _⟩ := hown9.erow
        simp only at hrun9
        have hS9 : Below w4.heap.size w4 w9 := beln hS hb9
        have HO9 := Lib.hid (hown9.low (show w4.heap.size ≤ w4.drew.heap.size from Nat.le_refl _))
        have HM9 : Hid ((ys1 ++ [(⟨⟨xc, xs', ⟨⟨i0, i1, i2⟩, xp, ⟨a0, a1, a2, a3, a4, a5, a6⟩⟩⟩, A5, c5⟩ : GV)]).map GV.e = (xs.map GV.e).take xs.length ++ [⟨xc, xs', ⟨⟨i0, i1, i2⟩, xp, ⟨a0, a1, a2, a3, a4, a5, a6⟩⟩⟩]) := Lib.hid (by rw [List.map_append, hm1, List.map_take]; rfl)
        have HL9 : Hid ((ys1 ++ [(⟨⟨xc, xs', ⟨⟨i0, i1, i2⟩, xp, ⟨a0, a1, a2, a3, a4, a5, a6⟩⟩⟩, A5, c5⟩ : GV)]).length ≤ xs.length + 1) := Lib.hid (by simp; omega)
        clear ho1 hm1 hf1 hb2 ho5 hb3 hap hpw hl1 hown9 hc5 hb9
        go_simp
        refine hK _ _ hS3 ?_
        clear hK K
        try simp only [Act.put, List.setIfInBounds_toArray, List.set_cons_zero, List.set_cons_succ]
        iterate 1
          (first
            | (refine wpGrowS_float (v := ?_) (by simp only [List.getElem?_toArray, List.getElem?_cons_succ, List.getElem?_cons_zero]; rfl) (by rfl) ?_ ?_
               rotate_left
               · (intro W hW; have t0 := (hW.cell (p := ⟨w.heap.size, 0, none⟩) hgl).trans g0; have t1 := (hW.cell (p := ⟨w.heap.size, 1, none⟩) hgl).trans g1; have t2 := (hW.cell (p := ⟨w.heap.size, 2, none⟩) hgl).trans g2; have t3 := (hW.cell (p := ⟨w.heap.size, 3, none⟩) hgl).trans g3; have t4 := (hW.cell (p := ⟨w.heap.size, 4, none⟩) hgl).trans g4; have t5 := (hW.cell (p := ⟨w.heap.size, 5, none⟩) hgl).trans g5; have t6 := (hW.cell (p := ⟨w.heap.size, 6, none⟩) hgl).trans g6; have t7 := (hW.cell (p := ⟨w.heap.size, 7, none⟩) hgl).trans g7; have t8 := (hW.cell (p := ⟨w.heap.size, 8, none⟩) hgl).trans g8; have t9 := (hW.cell (p := ⟨w.heap.size, 9, none⟩) hgl).trans g9; have t10 := (hW.cell (p := ⟨w.heap.size, 10, none⟩) hgl).trans g10; have t11 := (hW.cell (p := ⟨w.heap.size, 11, none⟩) hgl).trans g11; have t12 := (hW.cell (p := ⟨w.heap.size, 12, none⟩) hgl).trans g12; have k1 := fun W => HT1.out W; have k2 := fun W => HT2.out W; (try simp only at *); go_simp; try with_reducible rfl)
               simp only [Act.put, List.setIfInBounds_toArray, List.set_cons_zero, List.set_cons_succ])
            | (refine wpGrowS_skip (by simp only [List.getElem?_toArray, List.getElem?_cons_succ, List.getElem?_cons_zero]; rfl) (by rfl) ?_
               simp only [Act.put, List.setIfInBounds_toArray, List.set_cons_zero, List.set_cons_succ]))
        refine wpGrowS_call (by simp only [List.getElem?_toArray, List.getElem?_cons_succ, List.getElem?_cons_zero]; rfl) (by rfl) fun K hK => ?_
        go_simp
        refine hK _ _ (belt hS3 _) ?_
        clear hK K
        try simp only [Act.put, List.setIfInBounds_toArray, List.set_cons_zero, List.set_cons_succ]
        refine wpGrowS_call (by simp only [List.getElem?_toArray, List.getElem?_cons_succ, List.getElem?_cons_zero]; rfl) (by rfl) fun K hK => ?_
        refine oper_app10 (R := fun v W => v = (.slice A9 (ys1 ++ [(⟨⟨xc, xs', ⟨⟨i0, i1, i2⟩, xp, ⟨a0, a1, a2, a3, a4, a5, a6⟩⟩⟩, A5, c5⟩ : GV)]).length c9) ∧ W = w9) ⟨(.slice A9 (ys1 ++ [(⟨⟨xc, xs', ⟨⟨i0, i1, i2⟩, xp, ⟨a0, a1, a2, a3, a4, a5, a6⟩⟩⟩, A5, c5⟩ : GV)]).length c9), w9, hrun9, rfl, rfl⟩ rfl rfl rfl rfl ?_
        rintro v8 w8 ⟨rfl, rfl⟩
        refine hK _ _ hS9 ?_
        clear hK K
        try simp only [Act.put, List.setIfInBounds_toArray, List.set_cons_zero, List.set_cons_succ]
        iterate 1
          (first
            | (refine wpGrowS_float (v := ?_) (by simp only [List.getElem?_toArray, List.getElem?_cons_succ, List.getElem?_cons_zero]; rfl) (by rfl) ?_ ?_
               rotate_left
               · (intro W hW; have t0 := (hW.cell (p := ⟨w.heap.size, 0, none⟩) hgl).trans g0; have t1 := (hW.cell (p := ⟨w.heap.size, 1, none⟩) hgl).trans g1; have t2 := (hW.cell (p := ⟨w.heap.size, 2, none⟩) hgl).trans g2; have t3 := (hW.cell (p := ⟨w.heap.size, 3, none⟩) hgl).trans g3; have t4 := (hW.cell (p := ⟨w.heap.size, 4, none⟩) hgl).trans g4; have t5 := (hW.cell (p := ⟨w.heap.size, 5, none⟩) hgl).trans g5; have t6 := (hW.cell (p := ⟨w.heap.size, 6, none⟩) hgl).trans g6; have t7 := (hW.cell (p := ⟨w.heap.size, 7, none⟩) hgl).trans g7; have t8 := (hW.cell (p := ⟨w.heap.size, 8, none⟩) hgl).trans g8; have t9 := (hW.cell (p := ⟨w.heap.size, 9, none⟩) hgl).trans g9; have t10 := (hW.cell (p := ⟨w.heap.size, 10, none⟩) hgl).trans g10; have t11 := (hW.cell (p := ⟨w.heap.size, 11, none⟩) hgl).trans g11; have t12 := (hW.cell (p := ⟨w.heap.size, 12, none⟩) hgl).trans g12; have k1 := fun W => HT1.out W; have k2 := fun W => HT2.out W; (try simp only at *); go_simp; try with_reducible rfl)
               simp only [Act.put, List.setIfInBounds_toArray, List.set_cons_zero, List.set_cons_succ])
            | (refine wpGrowS_skip (by simp only [List.getElem?_toArray, List.getElem?_cons_succ, List.getElem?_cons_zero]; rfl) (by rfl) ?_
               simp only [Act.put, List.setIfInBounds_toArray, List.set_cons_zero, List.set_cons_succ]))
        refine wpGrowS_nil ?_
        have HB9 := Lib.hid (beln HBK.out hS9)
        have HBK4 : Hid (w.heap.size ≤ w4.heap.size) := Lib.hid HBK.out.size
        have HBS9 := Lib.hid hS9
        have hzl : (ys1 ++ [(⟨⟨xc, xs', ⟨⟨i0, i1, i2⟩, xp, ⟨a0, a1, a2, a3, a4, a5, a6⟩⟩⟩, A5, c5⟩ : GV)]).length = ys1.length + 1 := by simp
        generalize (ys1 ++ [(⟨⟨xc, xs', ⟨⟨i0, i1, i2⟩, xp, ⟨a0, a1, a2, a3, a4, a5, a6⟩⟩⟩, A5, c5⟩ : GV)]) = zs at *
        clear hS hS2 hS3 hS9 hrun9 g0 g1 g2 g3 g4 g5 g6 g7 g8 g9 g10 g11 g12 hgl HC1 HCN
        have k3 := fun W => HD1.out W
        have k4 := fun W => HD2.out W
        go_wp2_with fail
        go_fit (HC2.out _ HB9.out)
        rintro e w10 ⟨v2, ys2, rfl, ho2, hm2, hf2, hb10⟩
        obtain ⟨A2, e2, rfl, _, _, hr2⟩ := ho2.erow
        have hl2 : ys2.length ≤ xs.length := by have := congrArg List.length hm2; rw [List.length_map, List.length_map, List.length_drop] at this; omega
        obtain ⟨v11, w11, hrun11, hown11, hg11, _⟩ := EOwn.app (HO9.out.next hb10) e2 hr2 (fun y hy => Apart.frs HO9.out.own (hf2 y hy)) (by have h4 := HBS9.out.size; have h5 := hb10.size; omega) (by have := HL9.out; omega)
        rw [hzl] at hrun11
        have HRUN := Lib.hid hrun11
        have HOF := Lib.hid (hown11.low HBK4.out)
        have HMF : Hid ((zs ++ ys2).map GV.e = RL) := Lib.hid (by rw [List.map_append, HM9.out, hm2, HIL.out, List.map_drop]; simp)
        have HBF := Lib.hid ((beln HB9.out hb10).grown hg11 (beln HB9.out hb10).size (fun g e => Nat.le_trans HBK4.out ((HO9.out.next hb10).own.lt g e).1))
        clear hzl ho2 hm2 hf2 hb10 hr2 hl2 hrun11 hown11 hg11 k3 k4 HC2
        go_wp2_with (at_builtin; refine wpList_gapp HRUN.out rfl rfl rfl rfl rfl ?_)
        exact HF.out _ _ _ HOF.out HMF.out HBF.out

end Go.Proofs.YtndppbfdcceflaaGreatDoor


namespace Go.Proofs.YtndppbfdcceflaaGreatDoor
open Go.RowKit

def LB (L : List GE) : Prop := L.length ≤ 100000 ∧ ∀ e ∈ L, e.node.path.length ≤ 17179869184
theorem LB.ins {es : List GE} {e : GE} (h : es.length ≤ 40) (hp : ∀ o ∈ es, o.node.path.length ≤ 17179869184) (he : e.node.path.length ≤ 17179869184) : LB (insR es e) := by
  unfold insR
  split
  · unfold insL
    refine ⟨?_, fun o ho => ?_⟩
    · rw [List.length_append, List.length_take, List.length_cons, List.length_drop]; omega
    · rcases List.mem_append.1 ho with h1 | h1
      · exact hp o (List.mem_of_mem_take h1)
      · rcases List.mem_cons.1 h1 with rfl | h2
        · exact he
        · exact hp o (List.mem_of_mem_drop h2)
  · exact ⟨by simp, fun o ho => by cases ho⟩
theorem LB.rem {es : List GE} {i : GId} (h : es.length ≤ 40) (hp : ∀ o ∈ es, o.node.path.length ≤ 17179869184) : LB (remR es i) := by
  unfold remR
  split
  · unfold remL
    refine ⟨?_, fun o ho => ?_⟩
    · rw [List.length_append, List.length_take, List.length_drop]; omega
    · rcases List.mem_append.1 ho with h1 | h1
      · exact hp o (List.mem_of_mem_take h1)
      · exact hp o (List.mem_of_mem_drop h1)
  · exact ⟨by simp, fun o ho => by cases ho⟩
theorem LB.fil {es : List GE} (p : GE → Bool) (h : es.length ≤ 40) (hp : ∀ o ∈ es, o.node.path.length ≤ 17179869184) : LB (es.filter p) := ⟨by have := List.length_filter_le p es; omega, fun o ho => hp o (List.mem_filter.1 ho).1⟩
theorem same13 (L : List GE) (hL : LB L) (ys zs : List GV) (hy : ys.map GV.e = L) (hz : zs.map GV.e = L) (B : Option Addr) (d : Nat) (B' : Option Addr) (d' : Nat) (W : World) (h : ERow W W.heap.size B ys) (h' : ERow W W.heap.size B' zs) :
    Calls Tryz.prog 33 #[.slice B ys.length d, .slice B' zs.length d'] W fun e w' => e = .returned (.bool true) ∧ Below W.heap.size W w' := by
  have k : ∀ ys : List GV, ys.map GV.e = L → ys.length ≤ 100000 ∧ ∀ y ∈ ys, y.e.node.path.length ≤ 17179869184 := fun ys hy => ⟨by rw [← List.length_map (f := GV.e), hy]; exact hL.1, fun y hm => hL.2 _ (by rw [← hy]; exact List.mem_map_of_mem hm)⟩
  exact rSamE_any ys zs B B' d d' W h h' (k _ hy).1 (k _ hz).1 (k _ hy).2 (k _ hz).2 (hy.trans hz.symm)
set_option maxRecDepth 20000 in
set_option maxHeartbeats 4000000 in
theorem lchg13 (xs : List GV) (A : Option Addr) (c : Nat) (hcap : xs.length ≤ c) (x : GV) (w : World) (hx : PW w w.heap.size x) (i : GId) (core : Int) (h1 : ERow w w.heap.size A xs) (hG : T10 w) :
    Calls Tryz.prog 5 #[.slice A xs.length c, x.val, i.val, .int .i64 core] w fun e w' => e = .returned (.bool true) ∧ Below w.heap.size w w' := by
  have HAW := Lib.hid fun W (hW : Below w.heap.size w W) => awake13 W (T10.next hG hW)
  have HFW := Lib.hid fun W (hW : Below w.heap.size w W) => fewE_any xs A c W (h1.row.next hW)
  have HE0 := Lib.hid ((EB.new w x).next (belt (Below.refl _ _) (.cells #[.int .i64 i.core, .int .i64 i.op, .int .i64 i.part] 25)))
  have HI0 : Hid (IB ((w.alloc (.cells x.cells.toArray 32)).alloc (.cells #[.int .i64 i.core, .int .i64 i.op, .int .i64 i.part] 25)) (w.heap.size + 1) i) := Lib.hid (by
    have h := IB.new (w.alloc (.cells x.cells.toArray 32)) i
    have hz : (w.alloc (.cells x.cells.toArray 32)).heap.size = w.heap.size + 1 := by simp
    rw [hz] at h
    exact h)
  have HB0 := Lib.hid (show Below w.heap.size w ((w.alloc (.cells x.cells.toArray 32)).alloc (.cells #[.int .i64 i.core, .int .i64 i.op, .int .i64 i.part] 25)) from belt (belt (Below.refl _ w) _) _)
  simp only [GV.cells] at HB0 HI0
  cases hfw : fewE xs
  · rw [hfw] at HFW
    clear hfw h1 hG hx HI0 HE0
    obtain ⟨⟨xc, xs', ⟨⟨i0, i1, i2⟩, xp, ⟨a0, a1, a2, a3, a4, a5, a6⟩⟩⟩, xA, xcp⟩ := x
    obtain ⟨j0, j1, j2⟩ := i
    simp only [GV.val, GId.val] at *
    go_enter Tryz.func5, Tryz.ntmps5
    go_wp2_with fail
    go_fit (HFW.out _ HB0.out)
    rintro e w1 ⟨rfl, hww⟩
    have HB1 : Hid (Below w.heap.size w w1) := by rw [hww]; exact HB0
    clear hww HB0 HFW
    go_wp2_with fail
    go_fit (HAW.out _ HB1.out)
    rintro e w2 ⟨rfl, hb2⟩
    have HB2 := Lib.hid (beln HB1.out hb2)
    clear hb2
    go_wp2
    go_ret
    exact ⟨rfl, HB2.out⟩
  rw [hfw] at HFW
  rcases Nat.lt_or_ge 20 x.e.node.path.length with hlp | hlp
  · clear hfw h1 hG hx HI0
    obtain ⟨⟨xc, xs', ⟨⟨i0, i1, i2⟩, xp, ⟨a0, a1, a2, a3, a4, a5, a6⟩⟩⟩, xA, xcp⟩ := x
    obtain ⟨j0, j1, j2⟩ := i
    simp only [GV.val, GId.val] at *
    have d1 : decide ((20 : Int) < (xp.length : Int)) = true := by simp; omega
    go_enter Tryz.func5, Tryz.ntmps5
    go_wp2_with fail
    go_fit (HFW.out _ HB0.out)
    rintro e w1 ⟨rfl, hww⟩
    have HB1 : Hid (Below w.heap.size w w1) := by rw [hww]; exact HB0
    have HE1 : Hid (EB w1 w.heap.size ⟨⟨xc, xs', ⟨⟨i0, i1, i2⟩, xp, ⟨a0, a1, a2, a3, a4, a5, a6⟩⟩⟩, xA, xcp⟩) := by rw [hww]; exact HE0
    clear hww HB0 HFW HE0
    obtain ⟨g0, g1, g2, g3, g4, g5, g6, g7, g8, g9, g10, g11, g12⟩ := EBc HE1.out
    simp only at g0 g1 g2 g3 g4 g5 g6 g7 g8 g9 g10 g11 g12
    go_wp2_with fail
    go_fit (HAW.out _ HB1.out)
    rintro e w2 ⟨rfl, hb2⟩
    have HB2 := Lib.hid (beln HB1.out hb2)
    clear hb2 g0 g1 g2 g3 g4 g5 g6 g7 g8 g9 g10 g11 g12
    go_wp2
    go_ret
    exact ⟨rfl, HB2.out⟩
  obtain ⟨hl, hp⟩ := fewE_of hfw
  have hpe : ∀ e ∈ xs.map GV.e, e.node.path.length ≤ 17179869184 := fun e he => by
    obtain ⟨x, hx, rfl⟩ := List.mem_map.1 he
    have := hp x hx
    omega
  have hpx : ∀ x ∈ xs, x.e.node.path.length ≤ 17179869184 := fun x hx => by have := hp x hx; omega
  have hpn : x.e.node.path.length ≤ 17179869184 := by omega
  obtain ⟨es, hes⟩ : ∃ es, xs.map GV.e = es := ⟨_, rfl⟩
  have hle : es.length ≤ 40 := by rw [← hes]; simpa using hl
  have hpy : ∀ ys : List GV, ys.map GV.e = es → (∀ y ∈ ys, y.e.node.path.length ≤ 17179869184) ∧ ys.length = xs.length := fun ys hy => ⟨fun y hm => hpe _ (by rw [hes, ← hy]; exact List.mem_map_of_mem hm), by have := congrArg List.length (hy.trans hes.symm); simpa using this⟩
  have HCP := Lib.hid fun W (hW : Below w.heap.size w W) => rCpE_any xs A c W (h1.next hW) (by omega) hpx
  have HPI := Lib.hid fun ys (hy : ys.map GV.e = es) B d (hd : ys.length ≤ d) W (hW : Below w.heap.size w W) (hr : ERow W W.heap.size B ys) => pInsE_any ys B d x W hr hd (hx.next hW) (by have := (hpy ys hy).2; omega) (hpy ys hy).1 hpn
  have HPI : Hid (∀ ys (_ : ys.map GV.e = es) B d (_ : ys.length ≤ d) W (_ : Below w.heap.size w W) (_ : ERow W W.heap.size B ys), Calls Tryz.prog 29 #[.slice B ys.length d, x.val] W (OptEnd (insR es x.e) (insB es x.e) W)) := Lib.hid fun ys hy B d hd W hW hr => by rw [← hy]; exact HPI.out ys hy B d hd W hW hr
  have HPR := Lib.hid fun ys (hy : ys.map GV.e = es) B d W (hr : ERow W W.heap.size B ys) => pRemE_any ys B d i W hr (by have := (hpy ys hy).2; omega) (hpy ys hy).1
  have HPP := Lib.hid fun ys (hy : ys.map GV.e = es) B d W (hr : ERow W W.heap.size B ys) => pPrnE_any ys B d i W hr (by have := (hpy ys hy).2; omega) (hpy ys hy).1
  have HPE := Lib.hid fun ys (hy : ys.map GV.e = es) B d W (hr : ERow W W.heap.size B ys) => pEvcE_any ys B d core W hr (by have := (hpy ys hy).2; omega) (hpy ys hy).1
  have HRI := Lib.hid fun W (hW : Below w.heap.size w W) => rInsE_any xs A c x W (h1.next hW) hcap (hx.next hW) (by omega) hpx hpn
  have HRR := Lib.hid fun W (hW : Below w.heap.size w W) => rRemE_any xs A c i W (h1.next hW) hcap (by omega) hpx
  have HRP := Lib.hid fun W (hW : Below w.heap.size w W) => rPrnE_any xs A c i W (h1.next hW) (by omega) hpx
  have HRE := Lib.hid fun W (hW : Below w.heap.size w W) => rEvcE_any xs A c core W (h1.next hW) (by omega) hpx
  rw [hes] at HCP HRI HRR HRP HRE hpe
  have HPR : Hid (∀ ys (_ : ys.map GV.e = es) B d W (_ : ERow W W.heap.size B ys), Calls Tryz.prog 31 #[.slice B ys.length d, i.val] W (OptEnd (remR es i) (remB es i) W)) := Lib.hid fun ys hy B d W hr => by rw [← hy]; exact HPR.out ys hy B d W hr
  have HPP : Hid (∀ ys (_ : ys.map GV.e = es) B d W (_ : ERow W W.heap.size B ys), Calls Tryz.prog 34 #[.slice B ys.length d, i.val] W (EsEnd (prnL es i) W)) := Lib.hid fun ys hy B d W hr => by rw [← hy]; exact HPP.out ys hy B d W hr
  have HPE : Hid (∀ ys (_ : ys.map GV.e = es) B d W (_ : ERow W W.heap.size B ys), Calls Tryz.prog 36 #[.slice B ys.length d, .int .i64 core] W (EsEnd (evcL es core) W)) := Lib.hid fun ys hy B d W hr => by rw [← hy]; exact HPE.out ys hy B d W hr
  have HSL := Lib.hid same13
  have HLI := Lib.hid (LB.ins (e := x.e) hle hpe hpn)
  have HLR := Lib.hid (LB.rem (i := i) hle hpe)
  have HLP : Hid (LB (prnL es i)) := Lib.hid (LB.fil _ hle hpe)
  have HLE : Hid (LB (evcL es core)) := Lib.hid (LB.fil _ hle hpe)
  unfold EsEnd at HCP HPP HPE HRP HRE
  unfold OptEnd at HPI HPR HRI HRR
  generalize insR es x.e = RI at *
  generalize insB es x.e = ib at *
  generalize remR es i = RR at *
  generalize remB es i = rb at *
  generalize prnL es i = RP at *
  generalize evcL es core = RV at *
  have hfib : (ib == ib) = true := by simp
  have hfrb : (rb == rb) = true := by simp
  have hlq : x.e.node.path.length ≤ 20 := hlp
  clear hfw h1 hG hp hpe hpx hpy hes hle hl hx hcap hpn hlp
  obtain ⟨⟨xc, xs', ⟨⟨i0, i1, i2⟩, xp, ⟨a0, a1, a2, a3, a4, a5, a6⟩⟩⟩, xA, xcp⟩ := x
  obtain ⟨j0, j1, j2⟩ := i
  simp only [GV.val, GId.val] at *
  have d1 : decide ((20 : Int) < (xp.length : Int)) = false := by simp; omega
  clear hlq
  go_enter Tryz.func5, Tryz.ntmps5
  go_wp2_with fail
  go_fit (HFW.out _ HB0.out)
  rintro e w1 ⟨rfl, hww⟩
  have HBK : Hid (Below w.heap.size w w1) := by rw [hww]; exact HB0
  have HE1 : Hid (EB w1 w.heap.size ⟨⟨xc, xs', ⟨⟨i0, i1, i2⟩, xp, ⟨a0, a1, a2, a3, a4, a5, a6⟩⟩⟩, xA, xcp⟩) := by rw [hww]; exact HE0
  have HI1 : Hid (IB w1 (w.heap.size + 1) ⟨j0, j1, j2⟩) := by rw [hww]; exact HI0
  clear hww HB0 HFW HE0 HI0
  obtain ⟨g0, g1, g2, g3, g4, g5, g6, g7, g8, g9, g10, g11, g12⟩ := EBc HE1.out
  have hgl := HE1.out.lt
  simp only at g0 g1 g2 g3 g4 g5 g6 g7 g8 g9 g10 g11 g12
  go_upto_region 3 with fail
  clear d1
  have hS : Below w1.heap.size w1 w1.drew := (Below.refl _ w1).drew
  refine wp_region_growS (S := fun W => Below w1.heap.size w1 W) [(0, true), (2, true), (1, false), (3, false), (4, true), (5, true), (7, true), (6, true), (8, true)] (by kernel_rfl) (by kernel_rfl) (by kernel_rfl) (by kernel_rfl) (by intro c a d v w h; cases d <;> exact h) hS ?_
  iterate 2
    (first
      | (refine wpGrowS_float (v := ?_) (by simp only [List.getElem?_toArray, List.getElem?_cons_succ, List.getElem?_cons_zero]; rfl) (by rfl) ?_ ?_
         rotate_left
         · (intro W hW; have t0 := (hW.cell (p := ⟨w.heap.size, 0, none⟩) hgl).trans g0; have t1 := (hW.cell (p := ⟨w.heap.size, 1, none⟩) hgl).trans g1; have t2 := (hW.cell (p := ⟨w.heap.size, 2, none⟩) hgl).trans g2; have t3 := (hW.cell (p := ⟨w.heap.size, 3, none⟩) hgl).trans g3; have t4 := (hW.cell (p := ⟨w.heap.size, 4, none⟩) hgl).trans g4; have t5 := (hW.cell (p := ⟨w.heap.size, 5, none⟩) hgl).trans g5; have t6 := (hW.cell (p := ⟨w.heap.size, 6, none⟩) hgl).trans g6; have t7 := (hW.cell (p := ⟨w.heap.size, 7, none⟩) hgl).trans g7; have t8 := (hW.cell (p := ⟨w.heap.size, 8, none⟩) hgl).trans g8; have t9 := (hW.cell (p := ⟨w.heap.size, 9, none⟩) hgl).trans g9; have t10 := (hW.cell (p := ⟨w.heap.size, 10, none⟩) hgl).trans g10; have t11 := (hW.cell (p := ⟨w.heap.size, 11, none⟩) hgl).trans g11; have t12 := (hW.cell (p := ⟨w.heap.size, 12, none⟩) hgl).trans g12; (try simp only at *); go_simp; try with_reducible rfl)
         simp only [Act.put, List.setIfInBounds_toArray, List.set_cons_zero, List.set_cons_succ])
      | (refine wpGrowS_skip (by simp only [List.getElem?_toArray, List.getElem?_cons_succ, List.getElem?_cons_zero]; rfl) (by rfl) ?_
         simp only [Act.put, List.setIfInBounds_toArray, List.set_cons_zero, List.set_cons_succ]))
  refine wpGrowS_call (by simp only [List.getElem?_toArray, List.getElem?_cons_succ, List.getElem?_cons_zero]; rfl) (by rfl) fun K hK => ?_
  go_simp
  go_fit (HCP.out _ (beln HBK.out hS))
  rintro e wc3 ⟨vc3, ys3, rfl, hoc3, hmc3, hbc3⟩
  obtain ⟨Ac3, cc3, rfl, hdc3, _, hrc3⟩ := hoc3.erow
  have hS3 := beln hS hbc3
  clear hoc3 hbc3
  go_simp
  refine hK _ _ hS3 ?_
  clear hK K
  try simp only [Act.put, List.setIfInBounds_toArray, List.set_cons_zero, List.set_cons_succ]
  refine wpGrowS_call (by simp only [List.getElem?_toArray, List.getElem?_cons_succ, List.getElem?_cons_zero]; rfl) (by rfl) fun K hK => ?_
  go_simp
  go_fit (HPI.out _ hmc3 _ _ hdc3 _ (beln HBK.out hS3) hrc3)
  rintro e wd3 ⟨vd3, zs3, rfl, hod3, hmd3, hbd3⟩
  obtain ⟨Ad3, cd3, rfl, _, _, hrd3⟩ := hod3.erow
  have hS4 := beln hS3 hbd3
  clear hod3 hbd3
  go_simp
  refine hK _ _ hS4 ?_
  clear hK K
  try simp only [Act.put, List.setIfInBounds_toArray, List.set_cons_zero, List.set_cons_succ]
  iterate 5
    (first
      | (refine wpGrowS_float (v := ?_) (by simp only [List.getElem?_toArray, List.getElem?_cons_succ, List.getElem?_cons_zero]; rfl) (by rfl) ?_ ?_
         rotate_left
         · (intro W hW; have t0 := (hW.cell (p := ⟨w.heap.size, 0, none⟩) hgl).trans g0; have t1 := (hW.cell (p := ⟨w.heap.size, 1, none⟩) hgl).trans g1; have t2 := (hW.cell (p := ⟨w.heap.size, 2, none⟩) hgl).trans g2; have t3 := (hW.cell (p := ⟨w.heap.size, 3, none⟩) hgl).trans g3; have t4 := (hW.cell (p := ⟨w.heap.size, 4, none⟩) hgl).trans g4; have t5 := (hW.cell (p := ⟨w.heap.size, 5, none⟩) hgl).trans g5; have t6 := (hW.cell (p := ⟨w.heap.size, 6, none⟩) hgl).trans g6; have t7 := (hW.cell (p := ⟨w.heap.size, 7, none⟩) hgl).trans g7; have t8 := (hW.cell (p := ⟨w.heap.size, 8, none⟩) hgl).trans g8; have t9 := (hW.cell (p := ⟨w.heap.size, 9, none⟩) hgl).trans g9; have t10 := (hW.cell (p := ⟨w.heap.size, 10, none⟩) hgl).trans g10; have t11 := (hW.cell (p := ⟨w.heap.size, 11, none⟩) hgl).trans g11; have t12 := (hW.cell (p := ⟨w.heap.size, 12, none⟩) hgl).trans g12; (try simp only at *); go_simp; try with_reducible rfl)
         simp only [Act.put, List.setIfInBounds_toArray, List.set_cons_zero, List.set_cons_succ])
      | (refine wpGrowS_skip (by simp only [List.getElem?_toArray, List.getElem?_cons_succ, List.getElem?_cons_zero]; rfl) (by rfl) ?_
         simp only [Act.put, List.setIfInBounds_toArray, List.set_cons_zero, List.set_cons_succ]))
  refine wpGrowS_nil ?_
  have HB3 := Lib.hid (beln HBK.out hS4)
  have HE3 := Lib.hid (HE1.out.next hS4)
  have HI3 := Lib.hid (HI1.out.next hS4)
  have HRA := Lib.hid hrd3
  have HMA := Lib.hid hmd3
  clear hS hS3 hS4 g0 g1 g2 g3 g4 g5 g6 g7 g8 g9 g10 g11 g12 hgl HBK HPI HE1 HI1 hrd3 hmd3 hrc3 hmc3 hdc3
  obtain ⟨g0, g1, g2, g3, g4, g5, g6, g7, g8, g9, g10, g11, g12⟩ := EBc HE3.out
  simp only at g0 g1 g2 g3 g4 g5 g6 g7 g8 g9 g10 g11 g12
  go_wp2_with fail
  go_fit (HRI.out _ HB3.out)
  rintro e w4 ⟨v4, y4, rfl, ho4, hm4, hb4⟩
  obtain ⟨A4, c4, rfl, _, _, hr4⟩ := ho4.erow
  have HBK := Lib.hid (beln HB3.out hb4)
  have HI4 := Lib.hid (HI3.out.next hb4)
  have HRA := Lib.hid (HRA.out.next hb4)
  have HRB := Lib.hid hr4
  have HMB := Lib.hid hm4
  clear ho4 hm4 hb4 hr4 g0 g1 g2 g3 g4 g5 g6 g7 g8 g9 g10 g11 g12 HB3 HE3 HI3 HRI
  go_upto_region 5 with fail
  obtain ⟨y0, y1, y2⟩ := HI4.out.cells
  have hil := HI4.out.lt
  simp only at y0 y1 y2
  have hS : Below w4.heap.size w4 w4.drew := (Below.refl _ w4).drew
  refine wp_region_growS (S := fun W => Below w4.heap.size w4 W) [(0, true), (2, true), (1, false), (3, false), (4, true), (5, true), (7, true), (6, true), (8, true)] (by kernel_rfl) (by kernel_rfl) (by kernel_rfl) (by kernel_rfl) (by intro c a d v w h; cases d <;> exact h) hS ?_
  iterate 2
    (first
      | (refine wpGrowS_float (v := ?_) (by simp only [List.getElem?_toArray, List.getElem?_cons_succ, List.getElem?_cons_zero]; rfl) (by rfl) ?_ ?_
         rotate_left
         · (intro W hW; have u0 := (hW.cell (p := ⟨w.heap.size + 1, 0, none⟩) hil).trans y0; have u1 := (hW.cell (p := ⟨w.heap.size + 1, 1, none⟩) hil).trans y1; have u2 := (hW.cell (p := ⟨w.heap.size + 1, 2, none⟩) hil).trans y2; (try simp only at *); go_simp; try with_reducible rfl)
         simp only [Act.put, List.setIfInBounds_toArray, List.set_cons_zero, List.set_cons_succ])
      | (refine wpGrowS_skip (by simp only [List.getElem?_toArray, List.getElem?_cons_succ, List.getElem?_cons_zero]; rfl) (by rfl) ?_
         simp only [Act.put, List.setIfInBounds_toArray, List.set_cons_zero, List.set_cons_succ]))
  refine wpGrowS_call (by simp only [List.getElem?_toArray, List.getElem?_cons_succ, List.getElem?_cons_zero]; rfl) (by rfl) fun K hK => ?_
  go_simp
  go_fit (HCP.out _ (beln HBK.out hS))
  rintro e wc5 ⟨vc5, ys5, rfl, hoc5, hmc5, hbc5⟩
  obtain ⟨Ac5, cc5, rfl, hdc5, _, hrc5⟩ := hoc5.erow
  have hS3 := beln hS hbc5
  clear hoc5 hbc5
  go_simp
  refine hK _ _ hS3 ?_
  clear hK K
  try simp only [Act.put, List.setIfInBounds_toArray, List.set_cons_zero, List.set_cons_succ]
  refine wpGrowS_call (by simp only [List.getElem?_toArray, List.getElem?_cons_succ, List.getElem?_cons_zero]; rfl) (by rfl) fun K hK => ?_
  go_simp
  go_fit (HPR.out _ hmc5 _ _ _ hrc5)
  rintro e wd5 ⟨vd5, zs5, rfl, hod5, hmd5, hbd5⟩
  obtain ⟨Ad5, cd5, rfl, _, _, hrd5⟩ := hod5.erow
  have hS4 := beln hS3 hbd5
  clear hod5 hbd5
  go_simp
  refine hK _ _ hS4 ?_
  clear hK K
  try simp only [Act.put, List.setIfInBounds_toArray, List.set_cons_zero, List.set_cons_succ]
  iterate 5
    (first
      | (refine wpGrowS_float (v := ?_) (by simp only [List.getElem?_toArray, List.getElem?_cons_succ, List.getElem?_cons_zero]; rfl) (by rfl) ?_ ?_
         rotate_left
         · (intro W hW; have u0 := (hW.cell (p := ⟨w.heap.size + 1, 0, none⟩) hil).trans y0; have u1 := (hW.cell (p := ⟨w.heap.size + 1, 1, none⟩) hil).trans y1; have u2 := (hW.cell (p := ⟨w.heap.size + 1, 2, none⟩) hil).trans y2; (try simp only at *); go_simp; try with_reducible rfl)
         simp only [Act.put, List.setIfInBounds_toArray, List.set_cons_zero, List.set_cons_succ])
      | (refine wpGrowS_skip (by simp only [List.getElem?_toArray, List.getElem?_cons_succ, List.getElem?_cons_zero]; rfl) (by rfl) ?_
         simp only [Act.put, List.setIfInBounds_toArray, List.set_cons_zero, List.set_cons_succ]))
  refine wpGrowS_nil ?_
  have HB5 := Lib.hid (beln HBK.out hS4)
  have HI5 := Lib.hid (HI4.out.next hS4)
  have HRA := Lib.hid (HRA.out.next hS4)
  have HRB := Lib.hid (HRB.out.next hS4)
  have HRC := Lib.hid hrd5
  have HMC := Lib.hid hmd5
  clear hS hS3 hS4 y0 y1 y2 hil HBK HPR HI4 hrd5 hmd5 hrc5 hmc5 hdc5
  obtain ⟨y0, y1, y2⟩ := HI5.out.cells
  simp only at y0 y1 y2
  go_wp2_with fail
  go_fit (HRR.out _ HB5.out)
  rintro e w6 ⟨v6, y6, rfl, ho6, hm6, hb6⟩
  obtain ⟨A6, c6, rfl, _, _, hr6⟩ := ho6.erow
  have HBK := Lib.hid (beln HB5.out hb6)
  have HI6 := Lib.hid (HI5.out.next hb6)
  have HRA := Lib.hid (HRA.out.next hb6)
  have HRB := Lib.hid (HRB.out.next hb6)
  have HRC := Lib.hid (HRC.out.next hb6)
  have HRD := Lib.hid hr6
  have HMD := Lib.hid hm6
  clear ho6 hm6 hb6 hr6 y0 y1 y2 HB5 HI5 HRR
  go_upto_region 7 with fail
  obtain ⟨y0, y1, y2⟩ := HI6.out.cells
  have hil := HI6.out.lt
  simp only at y0 y1 y2
  have hS : Below w6.heap.size w6 w6.drew := (Below.refl _ w6).drew
  refine wp_region_growS (S := fun W => Below w6.heap.size w6 W) [(0, true), (1, true), (2, false), (3, true), (4, true), (5, true), (6, true), (7, true), (8, true), (9, true), (10, true), (11, false), (12, true), (13, true), (14, true), (15, true), (16, true), (17, true), (18, true), (19, true), (21, true), (23, true), (24, true), (20, false), (22, false), (25, false), (26, false), (27, true), (28, true), (29, true), (31, true), (33, true), (34, true), (30, false), (32, false), (35, false), (36, false), (37, true), (38, true), (39, false), (40, true), (41, true)] (by kernel_rfl) (by kernel_rfl) (by kernel_rfl) (by kernel_rfl) (by intro c a d v w h; cases d <;> exact h) hS ?_
  iterate 2
    (first
      | (refine wpGrowS_float (v := ?_) (by simp only [List.getElem?_toArray, List.getElem?_cons_succ, List.getElem?_cons_zero]; rfl) (by rfl) ?_ ?_
         rotate_left
         · (intro W hW; have u0 := (hW.cell (p := ⟨w.heap.size + 1, 0, none⟩) hil).trans y0; have u1 := (hW.cell (p := ⟨w.heap.size + 1, 1, none⟩) hil).trans y1; have u2 := (hW.cell (p := ⟨w.heap.size + 1, 2, none⟩) hil).trans y2; (try simp only at *); go_simp; try with_reducible rfl)
         simp only [Act.put, List.setIfInBounds_toArray, List.set_cons_zero, List.set_cons_succ])
      | (refine wpGrowS_skip (by simp only [List.getElem?_toArray, List.getElem?_cons_succ, List.getElem?_cons_zero]; rfl) (by rfl) ?_
         simp only [Act.put, List.setIfInBounds_toArray, List.set_cons_zero, List.set_cons_succ]))
  refine wpGrowS_call (by simp only [List.getElem?_toArray, List.getElem?_cons_succ, List.getElem?_cons_zero]; rfl) (by rfl) fun K hK => ?_
  go_simp
  go_fit (HSL.out _ HLI.out _ _ HMA.out HMB.out _ _ _ _ _ (HRA.out.next hS) (HRB.out.next hS))
  rintro e we1 ⟨rfl, hbe1⟩
  have hSa := beln hS hbe1
  clear hbe1
  go_simp
  refine hK _ _ hSa ?_
  clear hK K
  try simp only [Act.put, List.setIfInBounds_toArray, List.set_cons_zero, List.set_cons_succ]
  iterate 8
    (first
      | (refine wpGrowS_float (v := ?_) (by simp only [List.getElem?_toArray, List.getElem?_cons_succ, List.getElem?_cons_zero]; rfl) (by rfl) ?_ ?_
         rotate_left
         · (intro W hW; have u0 := (hW.cell (p := ⟨w.heap.size + 1, 0, none⟩) hil).trans y0; have u1 := (hW.cell (p := ⟨w.heap.size + 1, 1, none⟩) hil).trans y1; have u2 := (hW.cell (p := ⟨w.heap.size + 1, 2, none⟩) hil).trans y2; (try simp only at *); go_simp; try with_reducible rfl)
         simp only [Act.put, List.setIfInBounds_toArray, List.set_cons_zero, List.set_cons_succ])
      | (refine wpGrowS_skip (by simp only [List.getElem?_toArray, List.getElem?_cons_succ, List.getElem?_cons_zero]; rfl) (by rfl) ?_
         simp only [Act.put, List.setIfInBounds_toArray, List.set_cons_zero, List.set_cons_succ]))
  refine wpGrowS_call (by simp only [List.getElem?_toArray, List.getElem?_cons_succ, List.getElem?_cons_zero]; rfl) (by rfl) fun K hK => ?_
  go_simp
  go_fit (HSL.out _ HLR.out _ _ HMC.out HMD.out _ _ _ _ _ (HRC.out.next hSa) (HRD.out.next hSa))
  rintro e we2 ⟨rfl, hbe2⟩
  have hSb := beln hSa hbe2
  clear hbe2
  go_simp
  refine hK _ _ hSb ?_
  clear hK K
  try simp only [Act.put, List.setIfInBounds_toArray, List.set_cons_zero, List.set_cons_succ]
  iterate 11
    (first
      | (refine wpGrowS_float (v := ?_) (by simp only [List.getElem?_toArray, List.getElem?_cons_succ, List.getElem?_cons_zero]; rfl) (by rfl) ?_ ?_
         rotate_left
         · (intro W hW; have u0 := (hW.cell (p := ⟨w.heap.size + 1, 0, none⟩) hil).trans y0; have u1 := (hW.cell (p := ⟨w.heap.size + 1, 1, none⟩) hil).trans y1; have u2 := (hW.cell (p := ⟨w.heap.size + 1, 2, none⟩) hil).trans y2; (try simp only at *); go_simp; try with_reducible rfl)
         simp only [Act.put, List.setIfInBounds_toArray, List.set_cons_zero, List.set_cons_succ])
      | (refine wpGrowS_skip (by simp only [List.getElem?_toArray, List.getElem?_cons_succ, List.getElem?_cons_zero]; rfl) (by rfl) ?_
         simp only [Act.put, List.setIfInBounds_toArray, List.set_cons_zero, List.set_cons_succ]))
  refine wpGrowS_call (by simp only [List.getElem?_toArray, List.getElem?_cons_succ, List.getElem?_cons_zero]; rfl) (by rfl) fun K hK => ?_
  go_simp
  go_fit (HCP.out _ (beln HBK.out hSb))
  rintro e wc7 ⟨vc7, ys7, rfl, hoc7, hmc7, hbc7⟩
  obtain ⟨Ac7, cc7, rfl, hdc7, _, hrc7⟩ := hoc7.erow
  have hSc := beln hSb hbc7
  clear hoc7 hbc7
  go_simp
  refine hK _ _ hSc ?_
  clear hK K
  try simp only [Act.put, List.setIfInBounds_toArray, List.set_cons_zero, List.set_cons_succ]
  refine wpGrowS_call (by simp only [List.getElem?_toArray, List.getElem?_cons_succ, List.getElem?_cons_zero]; rfl) (by rfl) fun K hK => ?_
  go_simp
  go_fit (HPP.out _ hmc7 _ _ _ hrc7)
  rintro e wd7 ⟨vd7, zs7, rfl, hod7, hmd7, hbd7⟩
  obtain ⟨Ad7, cd7, rfl, _, _, hrd7⟩ := hod7.erow
  have hSd := beln hSc hbd7
  clear hod7 hbd7
  go_simp
  refine hK _ _ hSd ?_
  clear hK K
  try simp only [Act.put, List.setIfInBounds_toArray, List.set_cons_zero, List.set_cons_succ]
  refine wpGrowS_call (by simp only [List.getElem?_toArray, List.getElem?_cons_succ, List.getElem?_cons_zero]; rfl) (by rfl) fun K hK => ?_
  go_simp
  go_fit (HRP.out _ (beln HBK.out hSd))
  rintro e wd8 ⟨vd8, zs8, rfl, hod8, hmd8, hbd8⟩
  obtain ⟨Ad8, cd8, rfl, _, _, hrd8⟩ := hod8.erow
  have hSe := beln hSd hbd8
  have hrd7 := hrd7.next hbd8
  clear hod8 hbd8
  go_simp
  refine hK _ _ hSe ?_
  clear hK K
  try simp only [Act.put, List.setIfInBounds_toArray, List.set_cons_zero, List.set_cons_succ]
  refine wpGrowS_call (by simp only [List.getElem?_toArray, List.getElem?_cons_succ, List.getElem?_cons_zero]; rfl) (by rfl) fun K hK => ?_
  go_simp
  go_fit (HSL.out _ HLP.out _ _ hmd7 hmd8 _ _ _ _ _ hrd7 hrd8)
  rintro e we3 ⟨rfl, hbe3⟩
  have hSf := beln hSe hbe3
  clear hbe3
  go_simp
  refine hK _ _ hSf ?_
  clear hK K
  try simp only [Act.put, List.setIfInBounds_toArray, List.set_cons_zero, List.set_cons_succ]
  iterate 6
    (first
      | (refine wpGrowS_float (v := ?_) (by simp only [List.getElem?_toArray, List.getElem?_cons_succ, List.getElem?_cons_zero]; rfl) (by rfl) ?_ ?_
         rotate_left
         · (intro W hW; have u0 := (hW.cell (p := ⟨w.heap.size + 1, 0, none⟩) hil).trans y0; have u1 := (hW.cell (p := ⟨w.heap.size + 1, 1, none⟩) hil).trans y1; have u2 := (hW.cell (p := ⟨w.heap.size + 1, 2, none⟩) hil).trans y2; (try simp only at *); go_simp; try with_reducible rfl)
         simp only [Act.put, List.setIfInBounds_toArray, List.set_cons_zero, List.set_cons_succ])
      | (refine wpGrowS_skip (by simp only [List.getElem?_toArray, List.getElem?_cons_succ, List.getElem?_cons_zero]; rfl) (by rfl) ?_
         simp only [Act.put, List.setIfInBounds_toArray, List.set_cons_zero, List.set_cons_succ]))
  refine wpGrowS_call (by simp only [List.getElem?_toArray, List.getElem?_cons_succ, List.getElem?_cons_zero]; rfl) (by rfl) fun K hK => ?_
  go_simp
  go_fit (HCP.out _ (beln HBK.out hSf))
  rintro e wc9 ⟨vc9, ys9, rfl, hoc9, hmc9, hbc9⟩
  obtain ⟨Ac9, cc9, rfl, hdc9, _, hrc9⟩ := hoc9.erow
  have hSg := beln hSf hbc9
  clear hoc9 hbc9
  go_simp
  refine hK _ _ hSg ?_
  clear hK K
  try simp only [Act.put, List.setIfInBounds_toArray, List.set_cons_zero, List.set_cons_succ]
  refine wpGrowS_call (by simp only [List.getElem?_toArray, List.getElem?_cons_succ, List.getElem?_cons_zero]; rfl) (by rfl) fun K hK => ?_
  go_simp
  go_fit (HPE.out _ hmc9 _ _ _ hrc9)
  rintro e wd9 ⟨vd9, zs9, rfl, hod9, hmd9, hbd9⟩
  obtain ⟨Ad9, cd9, rfl, _, _, hrd9⟩ := hod9.erow
  have hSh := beln hSg hbd9
  clear hod9 hbd9
  go_simp
  refine hK _ _ hSh ?_
  clear hK K
  try simp only [Act.put, List.setIfInBounds_toArray, List.set_cons_zero, List.set_cons_succ]
  refine wpGrowS_call (by simp only [List.getElem?_toArray, List.getElem?_cons_succ, List.getElem?_cons_zero]; rfl) (by rfl) fun K hK => ?_
  go_simp
  go_fit (HRE.out _ (beln HBK.out hSh))
  rintro e wd10 ⟨vd10, zs10, rfl, hod10, hmd10, hbd10⟩
  obtain ⟨Ad10, cd10, rfl, _, _, hrd10⟩ := hod10.erow
  have hSi := beln hSh hbd10
  have hrd9 := hrd9.next hbd10
  clear hod10 hbd10
  go_simp
  refine hK _ _ hSi ?_
  clear hK K
  try simp only [Act.put, List.setIfInBounds_toArray, List.set_cons_zero, List.set_cons_succ]
  refine wpGrowS_call (by simp only [List.getElem?_toArray, List.getElem?_cons_succ, List.getElem?_cons_zero]; rfl) (by rfl) fun K hK => ?_
  go_simp
  go_fit (HSL.out _ HLE.out _ _ hmd9 hmd10 _ _ _ _ _ hrd9 hrd10)
  rintro e we4 ⟨rfl, hbe4⟩
  have hSj := beln hSi hbe4
  clear hbe4
  go_simp
  refine hK _ _ hSj ?_
  clear hK K
  try simp only [Act.put, List.setIfInBounds_toArray, List.set_cons_zero, List.set_cons_succ]
  iterate 2
    (first
      | (refine wpGrowS_float (v := ?_) (by simp only [List.getElem?_toArray, List.getElem?_cons_succ, List.getElem?_cons_zero]; rfl) (by rfl) ?_ ?_
         rotate_left
         · (intro W hW; have u0 := (hW.cell (p := ⟨w.heap.size + 1, 0, none⟩) hil).trans y0; have u1 := (hW.cell (p := ⟨w.heap.size + 1, 1, none⟩) hil).trans y1; have u2 := (hW.cell (p := ⟨w.heap.size + 1, 2, none⟩) hil).trans y2; (try simp only at *); go_simp; try with_reducible rfl)
         simp only [Act.put, List.setIfInBounds_toArray, List.set_cons_zero, List.set_cons_succ])
      | (refine wpGrowS_skip (by simp only [List.getElem?_toArray, List.getElem?_cons_succ, List.getElem?_cons_zero]; rfl) (by rfl) ?_
         simp only [Act.put, List.setIfInBounds_toArray, List.set_cons_zero, List.set_cons_succ]))
  refine wpGrowS_call (by simp only [List.getElem?_toArray, List.getElem?_cons_succ, List.getElem?_cons_zero]; rfl) (by rfl) fun K hK => ?_
  go_simp
  go_fit (HAW.out _ (beln HBK.out hSj))
  rintro e we5 ⟨rfl, hbe5⟩
  have hSk := beln hSj hbe5
  clear hbe5
  go_simp
  refine hK _ _ hSk ?_
  clear hK K
  try simp only [Act.put, List.setIfInBounds_toArray, List.set_cons_zero, List.set_cons_succ]
  iterate 2
    (first
      | (refine wpGrowS_float (v := ?_) (by simp only [List.getElem?_toArray, List.getElem?_cons_succ, List.getElem?_cons_zero]; rfl) (by rfl) ?_ ?_
         rotate_left
         · (intro W hW; have u0 := (hW.cell (p := ⟨w.heap.size + 1, 0, none⟩) hil).trans y0; have u1 := (hW.cell (p := ⟨w.heap.size + 1, 1, none⟩) hil).trans y1; have u2 := (hW.cell (p := ⟨w.heap.size + 1, 2, none⟩) hil).trans y2; (try simp only at *); go_simp; try with_reducible rfl)
         simp only [Act.put, List.setIfInBounds_toArray, List.set_cons_zero, List.set_cons_succ])
      | (refine wpGrowS_skip (by simp only [List.getElem?_toArray, List.getElem?_cons_succ, List.getElem?_cons_zero]; rfl) (by rfl) ?_
         simp only [Act.put, List.setIfInBounds_toArray, List.set_cons_zero, List.set_cons_succ]))
  refine wpGrowS_nil ?_
  have HBF := Lib.hid (beln HBK.out hSk)
  clear hS hSa hSb hSc hSd hSe hSf hSg hSh hSi hSj hSk y0 y1 y2 hil
  go_wp2
  go_ret
  exact ⟨rfl, HBF.out⟩
end Go.Proofs.YtndppbfdcceflaaGreatDoor


namespace Go.Proofs.YtndppbfdcceflaaGreatDoor
open Go.ChangeShapes Go.WideShapes Go.RowKit

def IdRow (w : World) (B : Nat) (A : Option Addr) (len cap : Nat) (l : List GId) : Prop := l.length = len ∧ len ≤ cap ∧ GRow GId.cells 3 w B A l
section
variable {H : Type} {enc : TypeId × Value → H} {W : World} {base : Nat} {held : Bool}
set_option maxRecDepth 50000 in
theorem id_open {n : Nat} {cs : List Value} {x : DataW H × List MemPlace} (h : DataW.trod enc Tryz.prog W base (fun _ => true) held n 25 cs = some x) : ∃ r : GId, cs = r.cells := by
  obtain ⟨ys, m, _, hxy, hlen, hyl, hf⟩ := DataW.trod_struct Tryz.underlying25 h
  have c0 : Tryz.prog.cellsOf 25 = 3 := by kernel_rfl
  rw [c0] at hlen
  match cs, hlen with
  | [v0, v1, v2], _ =>
    have n1 : Tryz.prog.cellsOf 3 = 1 := by kernel_rfl
    have h0 := hf 0 _ rfl
    have h1 := hf 1 _ rfl
    have h2 := hf 2 _ rfl
    have yl : ys.length = 3 := hyl
    match ys, yl with
    | [y0, y1, y2], _ =>
      simp [n1] at h0
      simp [n1] at h1
      simp [n1] at h2
      obtain ⟨a0, e0, _, _⟩ := DataW.trod_int Tryz.underlying3 h0
      obtain ⟨a1, e1, _, _⟩ := DataW.trod_int Tryz.underlying3 h1
      obtain ⟨a2, e2, _, _⟩ := DataW.trod_int Tryz.underlying3 h2
      simp at e0 e1 e2
      subst e0 e1 e2
      exact ⟨⟨a0, a1, a2⟩, rfl⟩
set_option maxRecDepth 50000 in
theorem IsId_open {v : Value} {d : DataW H} {p : List MemPlace} {r : Reach} {b : Nat} (hv : Value.okWide Tryz.prog W r b 25 v) (h : DataW.Trod enc Tryz.prog W base (fun _ => true) held 25 v d p) : ∃ x : GId, v = x.val := by
  obtain ⟨cs, rfl, _⟩ := okWide_struct Tryz.underlying25 hv
  obtain ⟨fuel, hf⟩ := h
  obtain ⟨x, hcs⟩ := id_open hf
  refine ⟨x, ?_⟩
  have h2 : cs.toList = x.cells := hcs
  obtain ⟨cl⟩ := cs
  simp at h2
  rw [h2]; rfl
set_option maxRecDepth 50000 in
theorem cap_open {n : Nat} {cs : List Value} {x : DataW H × List MemPlace} (h : DataW.trod enc Tryz.prog W base (fun _ => true) held n 28 cs = some x) : ∃ c : GC, cs = c.cells := by
  obtain ⟨ys, m, _, hxy, hlen, hyl, hf⟩ := DataW.trod_struct Tryz.underlying28 h
  have c0 : Tryz.prog.cellsOf 28 = 7 := by kernel_rfl
  rw [c0] at hlen
  match cs, hlen with
  | [v0, v1, v2, v3, v4, v5, v6], _ =>
    have n1 : Tryz.prog.cellsOf 3 = 1 := by kernel_rfl
    have n2 : Tryz.prog.cellsOf 4 = 1 := by kernel_rfl
    have h0 := hf 0 _ rfl
    have h1 := hf 1 _ rfl
    have h2 := hf 2 _ rfl
    have h3 := hf 3 _ rfl
    have h4 := hf 4 _ rfl
    have h5 := hf 5 _ rfl
    have h6 := hf 6 _ rfl
    have yl : ys.length = 7 := hyl
    match ys, yl with
    | [y0, y1, y2, y3, y4, y5, y6], _ =>
      simp [n1] at h0
      simp [n1] at h1
      simp [n1] at h2
      simp [n1] at h3
      simp [n1] at h4
      simp [n1] at h5
      simp [n2] at h6
      obtain ⟨a0, e0, _, _⟩ := DataW.trod_int Tryz.underlying3 h0
      obtain ⟨a1, e1, _, _⟩ := DataW.trod_int Tryz.underlying3 h1
      obtain ⟨a2, e2, _, _⟩ := DataW.trod_int Tryz.underlying3 h2
      obtain ⟨a3, e3, _, _⟩ := DataW.trod_int Tryz.underlying3 h3
      obtain ⟨a4, e4, _, _⟩ := DataW.trod_int Tryz.underlying3 h4
      obtain ⟨a5, e5, _, _⟩ := DataW.trod_int Tryz.underlying3 h5
      obtain ⟨a6, e6, _⟩ := DataW.trod_bool Tryz.underlying4 h6
      simp at e0 e1 e2 e3 e4 e5 e6
      subst e0 e1 e2 e3 e4 e5 e6
      exact ⟨⟨a0, a1, a2, a3, a4, a5, a6⟩, rfl⟩
set_option maxRecDepth 50000 in
theorem IsCap_open {v : Value} {d : DataW H} {p : List MemPlace} {r : Reach} {b : Nat} (hv : Value.okWide Tryz.prog W r b 28 v) (h : DataW.Trod enc Tryz.prog W base (fun _ => true) held 28 v d p) : ∃ x : GC, v = x.val := by
  obtain ⟨cs, rfl, _⟩ := okWide_struct Tryz.underlying28 hv
  obtain ⟨fuel, hf⟩ := h
  obtain ⟨x, hcs⟩ := cap_open hf
  refine ⟨x, ?_⟩
  have h2 : cs.toList = x.cells := hcs
  obtain ⟨cl⟩ := cs
  simp at h2
  rw [h2]; rfl
set_option maxRecDepth 50000 in
theorem ids_open {fuel : Nat} {cs : List Value} {x : DataW H × List MemPlace} (hf : DataW.trod enc Tryz.prog W base (fun _ => true) held fuel 26 cs = some x) : ∃ a len cap l, cs = [.slice a len cap] ∧ IdRow W W.heap.size a len cap l := by
  rcases Go.Deep.open_slice Tryz.underlying26 hf with ⟨hcs, _⟩ | ⟨x, len, cap, m, n, D, Pl, hcs, _, hl, hm, hmm, hxd, hx⟩
  · exact ⟨none, 0, 0, [], by simpa [Value.cells] using hcs, rfl, Nat.le_refl _, GRow.nil⟩
  · refine ⟨some x, len, cap, ?_⟩
    have c0 : Tryz.prog.cellsOf 25 = 3 := by kernel_rfl
    rw [c0] at hx
    have hlm : len ≤ m := by rw [hmm]; split <;> omega
    have each : ∀ i, i < len → ∃ t : GId, ∀ j, j < 3 → W.cell? ((x.add (i * 3)).add j) = t.cells[j]? := fun i hi => by
      obtain ⟨cs', hc, ht⟩ := hx i (by omega)
      obtain ⟨s, rfl⟩ := id_open ht
      obtain ⟨_, _, hat⟩ := World.cells?_some hc
      exact ⟨s, fun j hj => hat j hj⟩
    haveI : Inhabited GId := ⟨⟨0, 0, 0⟩⟩
    obtain ⟨g, hgx⟩ := Go.Deep.choose_lt each
    refine ⟨(List.range len).map g, by simpa [Value.cells] using hcs, by simp, hl, fun h0 => ?_⟩
    simp at h0
    obtain ⟨b, off, spot⟩ := x
    have hc0 := hgx 0 h0 0 (by omega)
    have hspot : spot = none := by simpa [Addr.add] using World.cell?_spot (hc0.trans rfl)
    subst hspot
    have hlt := World.block_lt_of_cell? W _ (hc0.trans rfl)
    refine ⟨b, off, rfl, by simpa [Addr.add] using hlt, fun i hi j u hu => ?_⟩
    simp at hi
    have hj : j < 3 := by
      rcases Nat.lt_or_ge j 3 with h1 | h1
      · exact h1
      · rw [List.getElem?_eq_none (by simp [GId.cells]; omega)] at hu; cases hu
    have e : ((⟨b, off, none⟩ : Addr).add (i * 3)).add j = ⟨b, off + (i * 3 + j), none⟩ := by rw [Go.WideShapes.add_plain, Go.WideShapes.add_plain, Nat.add_assoc]
    have := hgx i hi j hj
    rw [e] at this
    simp at hu
    rw [this, hu]
set_option maxRecDepth 50000 in
theorem node_open {n : Nat} {cs : List Value} {x : DataW H × List MemPlace} (h : DataW.trod enc Tryz.prog W base (fun _ => true) held n 30 cs = some x) : ∃ (r : GN) (A : Option Addr) (c : Nat), Value.agg cs.toArray = r.val A c ∧ r.path.length ≤ c ∧ PRow W W.heap.size A r.path := by
  obtain ⟨ys, m, _, hxy, hlen, hyl, hf⟩ := DataW.trod_struct Tryz.underlying30 h
  have c0 : Tryz.prog.cellsOf 30 = 11 := by kernel_rfl
  rw [c0] at hlen
  match cs, hlen with
  | [v0, v1, v2, v3, v4, v5, v6, v7, v8, v9, v10], _ =>
    have n1 : Tryz.prog.cellsOf 25 = 3 := by kernel_rfl
    have n2 : Tryz.prog.cellsOf 26 = 1 := by kernel_rfl
    have n3 : Tryz.prog.cellsOf 28 = 7 := by kernel_rfl
    have h0 := hf 0 _ rfl
    have h1 := hf 1 _ rfl
    have h2 := hf 2 _ rfl
    have yl : ys.length = 3 := hyl
    match ys, yl with
    | [y0, y1, y2], _ =>
      simp [n1] at h0
      simp [n2] at h1
      simp [n3] at h2
      obtain ⟨i, hi⟩ := id_open h0
      obtain ⟨a, ha⟩ := cap_open h2
      obtain ⟨A, len, cp, l, hs, h3, h4, h5⟩ := ids_open h1
      obtain ⟨i0, i1, i2⟩ := i
      obtain ⟨a0, a1, a2, a3, a4, a5, a6⟩ := a
      simp only [GId.cells, GC.cells, List.cons.injEq, and_true] at hi ha hs
      obtain ⟨rfl, rfl, rfl⟩ := hi
      obtain ⟨rfl, rfl, rfl, rfl, rfl, rfl, rfl⟩ := ha
      subst hs h3
      exact ⟨⟨⟨i0, i1, i2⟩, l, ⟨a0, a1, a2, a3, a4, a5, a6⟩⟩, A, cp, rfl, h4, h5⟩
set_option maxRecDepth 50000 in
theorem IsNode_open {v : Value} {d : DataW H} {p : List MemPlace} {r : Reach} {b : Nat} (hv : Value.okWide Tryz.prog W r b 30 v) (h : DataW.Trod enc Tryz.prog W base (fun _ => true) held 30 v d p) : ∃ (x : GN) (A : Option Addr) (c : Nat), v = x.val A c ∧ x.path.length ≤ c ∧ PRow W W.heap.size A x.path := by
  obtain ⟨cs, rfl, _⟩ := okWide_struct Tryz.underlying30 hv
  obtain ⟨fuel, hf⟩ := h
  obtain ⟨x, A, c, hcs, h2, h3⟩ := node_open hf
  exact ⟨x, A, c, by rw [← hcs]; simp [Value.cells], h2, h3⟩
theorem IsIds_open {a : Option Addr} {len cap : Nat} {d : DataW H} {p : List MemPlace} (h : DataW.Trod enc Tryz.prog W base (fun _ => true) held 26 (.slice a len cap) d p) : ∃ l, IdRow W W.heap.size a len cap l := by
  obtain ⟨fuel, hf⟩ := h
  obtain ⟨a', len', cap', l, e, h⟩ := ids_open hf
  simp [Value.cells] at e
  obtain ⟨rfl, rfl, rfl⟩ := e
  exact ⟨l, h⟩
set_option maxRecDepth 50000 in
theorem ent_open {n : Nat} {cs : List Value} {x : DataW H × List MemPlace} (h : DataW.trod enc Tryz.prog W base (fun _ => true) held n 32 cs = some x) : ∃ r : GV, cs = r.cells ∧ r.e.node.path.length ≤ r.c ∧ PRow W W.heap.size r.A r.e.node.path := by
  obtain ⟨ys, m, _, hxy, hlen, hyl, hf⟩ := DataW.trod_struct Tryz.underlying32 h
  have c0 : Tryz.prog.cellsOf 32 = 13 := by kernel_rfl
  rw [c0] at hlen
  match cs, hlen with
  | [v0, v1, v2, v3, v4, v5, v6, v7, v8, v9, v10, v11, v12], _ =>
    have n1 : Tryz.prog.cellsOf 3 = 1 := by kernel_rfl
    have n3 : Tryz.prog.cellsOf 30 = 11 := by kernel_rfl
    have h0 := hf 0 _ rfl
    have h1 := hf 1 _ rfl
    have h2 := hf 2 _ rfl
    have yl : ys.length = 3 := hyl
    match ys, yl with
    | [y0, y1, y2], _ =>
      simp [n1] at h0
      simp [n1] at h1
      simp [n3] at h2
      obtain ⟨a0, e0, _, _⟩ := DataW.trod_int Tryz.underlying3 h0
      obtain ⟨a1, e1, _, _⟩ := DataW.trod_int Tryz.underlying3 h1
      obtain ⟨r, A, cp, hr, h4, h5⟩ := node_open h2
      simp at e0 e1
      subst e0 e1
      obtain ⟨⟨i0, i1, i2⟩, l, ⟨b0, b1, b2, b3, b4, b5, b6⟩⟩ := r
      simp only [GN.val, Value.agg.injEq, Array.mk.injEq, List.cons.injEq, and_true] at hr
      obtain ⟨rfl, rfl, rfl, rfl, rfl, rfl, rfl, rfl, rfl, rfl, rfl⟩ := hr
      exact ⟨⟨⟨a0, a1, ⟨⟨i0, i1, i2⟩, l, ⟨b0, b1, b2, b3, b4, b5, b6⟩⟩⟩, A, cp⟩, rfl, h4, h5⟩
def ERowA (w : World) (B : Nat) (A : Option Addr) (len cap : Nat) (l : List GV) : Prop := l.length = len ∧ len ≤ cap ∧ ERow w B A l
set_option maxRecDepth 50000 in
theorem IsEntry_open {v : Value} {d : DataW H} {p : List MemPlace} {r : Reach} {b : Nat} (hv : Value.okWide Tryz.prog W r b 32 v) (h : DataW.Trod enc Tryz.prog W base (fun _ => true) held 32 v d p) : ∃ x : GV, v = x.val ∧ PW W W.heap.size x := by
  obtain ⟨cs, rfl, _⟩ := okWide_struct Tryz.underlying32 hv
  obtain ⟨fuel, hf⟩ := h
  obtain ⟨x, hcs, h2, h3⟩ := ent_open hf
  refine ⟨x, ?_, h3, h2⟩
  have h4 : cs.toList = x.cells := hcs
  obtain ⟨cl⟩ := cs
  simp at h4
  rw [h4]; rfl
set_option maxRecDepth 50000 in
theorem IsEntries_open {a : Option Addr} {len cap : Nat} {d : DataW H} {p : List MemPlace} (h : DataW.Trod enc Tryz.prog W base (fun _ => true) held 22 (.slice a len cap) d p) : ∃ l, ERowA W W.heap.size a len cap l := by
  obtain ⟨fuel, hf⟩ := h
  rcases Go.Deep.open_slice Tryz.underlying22 hf with ⟨hcs, _⟩ | ⟨x, l, c, m, n, D, Pl, hcs, _, hl, hm, hmm, hxd, hx⟩
  · simp [Value.cells] at hcs
    obtain ⟨rfl, rfl, rfl⟩ := hcs
    exact ⟨[], rfl, Nat.le_refl _, ERow.nil⟩
  · simp [Value.cells] at hcs
    obtain ⟨rfl, rfl, rfl⟩ := hcs
    have c0 : Tryz.prog.cellsOf 32 = 13 := by kernel_rfl
    rw [c0] at hx
    have hlm : len ≤ m := by rw [hmm]; split <;> omega
    have each : ∀ i, i < len → ∃ t : GV, (∀ j, j < 13 → W.cell? ((x.add (i * 13)).add j) = t.cells[j]?) ∧ t.e.node.path.length ≤ t.c ∧ PRow W W.heap.size t.A t.e.node.path := fun i hi => by
      obtain ⟨cs', hc, ht⟩ := hx i (by omega)
      obtain ⟨s, rfl, h2, h3⟩ := ent_open ht
      obtain ⟨_, _, hat⟩ := World.cells?_some hc
      exact ⟨s, fun j hj => hat j hj, h2, h3⟩
    haveI : Inhabited GV := ⟨⟨⟨0, 0, ⟨⟨0, 0, 0⟩, [], ⟨0, 0, 0, 0, 0, 0, false⟩⟩⟩, none, 0⟩⟩
    obtain ⟨g, hgx⟩ := Go.Deep.choose_lt each
    refine ⟨(List.range len).map g, by simp, hl, fun h0 => ?_, fun y hy => ?_⟩
    · simp at h0
      obtain ⟨b, off, spot⟩ := x
      have hc0 := (hgx 0 h0).1 0 (by omega)
      have hspot : spot = none := by simpa [Addr.add] using World.cell?_spot (hc0.trans rfl)
      subst hspot
      have hlt := World.block_lt_of_cell? W _ (hc0.trans rfl)
      refine ⟨b, off, rfl, by simpa [Addr.add] using hlt, fun i hi j u hu => ?_⟩
      simp at hi
      have hj : j < 13 := by
        rcases Nat.lt_or_ge j 13 with h1 | h1
        · exact h1
        · rw [List.getElem?_eq_none (by simp [GV.cells]; omega)] at hu; cases hu
      have e : ((⟨b, off, none⟩ : Addr).add (i * 13)).add j = ⟨b, off + (i * 13 + j), none⟩ := by rw [Go.WideShapes.add_plain, Go.WideShapes.add_plain, Nat.add_assoc]
      have := (hgx i hi).1 j hj
      rw [e] at this
      simp at hu
      rw [this, hu]
    · obtain ⟨i, hi, rfl⟩ := List.mem_map.1 hy
      have h2 := (hgx i (by simpa using hi)).2
      exact ⟨h2.2, h2.1⟩
end
end Go.Proofs.YtndppbfdcceflaaGreatDoor
