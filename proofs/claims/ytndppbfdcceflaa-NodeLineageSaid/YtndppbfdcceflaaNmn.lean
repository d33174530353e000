/-
  The kit's Node: a valid node, its path in memory of the call's own.
  Conditions: the capability is valid.
-/
import Derived.Test.YtndppbfdcceflaaNmk
namespace Go.Proofs.Ytndppbfdcceflaa

open Go.RowKit

theorem NB.store2 {W : World} {N : Nat} {i : GId} {A : Option Addr} {n c : Nat} {p : GC} (h : NB W N i A n c p) (i' : GId) (A' : Option Addr) (n' c' : Nat) (p' : GC) : NB (((((((((((W.setCell ⟨N, 0, none⟩ (.int .i64 i'.core)).setCell ⟨N, 1, none⟩ (.int .i64 i'.op)).setCell ⟨N, 2, none⟩ (.int .i64 i'.part)).setCell ⟨N, 3, none⟩ (.slice A' n' c')).setCell ⟨N, 4, none⟩ (.int .i64 p'.kind)).setCell ⟨N, 5, none⟩ (.int .i64 p'.base)).setCell ⟨N, 6, none⟩ (.int .i64 p'.bits)).setCell ⟨N, 7, none⟩ (.int .i64 p'.rights)).setCell ⟨N, 8, none⟩ (.int .i64 p'.width)).setCell ⟨N, 9, none⟩ (.int .i64 p'.level)).setCell ⟨N, 10, none⟩ (.bool p'.device)) N i' A' n' c' p' := by
  unfold NB at *
  simp [World.setCell, Array.getElem?_modify, h]
theorem below11 {N : Nat} {W W' : World} (h : Below N W W') (v0 v1 v2 v3 v4 v5 v6 v7 v8 v9 v10 : Value) : Below N W (((((((((((W'.setCell ⟨N, 0, none⟩ v0).setCell ⟨N, 1, none⟩ v1).setCell ⟨N, 2, none⟩ v2).setCell ⟨N, 3, none⟩ v3).setCell ⟨N, 4, none⟩ v4).setCell ⟨N, 5, none⟩ v5).setCell ⟨N, 6, none⟩ v6).setCell ⟨N, 7, none⟩ v7).setCell ⟨N, 8, none⟩ v8).setCell ⟨N, 9, none⟩ v9).setCell ⟨N, 10, none⟩ v10) :=
  ((((((((((h.setCell (p := ⟨N, 0, none⟩) (Nat.le_refl _) v0).setCell (p := ⟨N, 1, none⟩) (Nat.le_refl _) v1).setCell (p := ⟨N, 2, none⟩) (Nat.le_refl _) v2).setCell (p := ⟨N, 3, none⟩) (Nat.le_refl _) v3).setCell (p := ⟨N, 4, none⟩) (Nat.le_refl _) v4).setCell (p := ⟨N, 5, none⟩) (Nat.le_refl _) v5).setCell (p := ⟨N, 6, none⟩) (Nat.le_refl _) v6).setCell (p := ⟨N, 7, none⟩) (Nat.le_refl _) v7).setCell (p := ⟨N, 8, none⟩) (Nat.le_refl _) v8).setCell (p := ⟨N, 9, none⟩) (Nat.le_refl _) v9).setCell (p := ⟨N, 10, none⟩) (Nat.le_refl _) v10
theorem NB.setPath {W : World} {N : Nat} {i : GId} {A : Option Addr} {n c : Nat} {p : GC} (h : NB W N i A n c p) (A' : Option Addr) (n' c' : Nat) : NB (W.setCell ⟨N, 3, none⟩ (.slice A' n' c')) N i A' n' c' p := by
  unfold NB at *
  simp [World.setCell, Array.getElem?_modify, h]
/-- What the kit's Node hands back. -/
def MNode (c : GC) (w : World) (e : Ending) (w' : World) : Prop := ∃ (x : GN) (A : Option Addr) (cc : Nat), e = .returned (x.val A cc) ∧ x.path.length ≤ cc ∧ x.cap = c ∧ vN x = true ∧ OwnG GId.cells 24 3 w' w.heap.size (.slice A x.path.length cc) x.path ∧ Below w.heap.size w w'
theorem node_ok {y : GId} {xs : List GId} {c : GC} (hc : vC c = true) (hy : vI y = true) (h8 : xs.length ≤ 8) (hv : vP xs = true) : vN ⟨y, xs.filter fun z => !eqI z y, c⟩ = true := by
  unfold vP at hv
  simp only [Bool.and_eq_true, List.all_eq_true, decide_eq_true_eq] at hv
  unfold vN vP hasI
  simp only [Bool.and_eq_true, List.all_eq_true, decide_eq_true_eq, Bool.not_eq_true', decide_eq_false_iff_not, hy, hc, true_and]
  refine ⟨⟨Nat.le_trans (List.length_filter_le _ _) h8, fun h => ?_⟩, fun z hz => hv.1 z (List.mem_filter.1 hz).1, hv.2.filter _⟩
  have h2 := (List.mem_filter.1 h).2
  rw [(eqI_iff y y).2 rfl] at h2
  cases h2
set_option maxRecDepth 20000 in
set_option maxHeartbeats 4000000 in
theorem mNode_any (i1 i2 i3 : Int) (a : Option Addr) (len cap : Nat) (zs : List Int) (cc : GC) (w : World) (h : IRow w w.heap.size a len cap zs) (hl : len ≤ 40) (hvc : vC cc = true) :
    Calls Try.prog 5 #[.int .i64 i1, .int .i64 i2, .int .i64 i3, .slice a len cap, cc.val] w (MNode cc w) := by
  have HID := Lib.hid fun a b c W => mId_any a b c W
  have HIDS := Lib.hid fun W (hW : Below w.heap.size w W) => mIds_any a len cap zs W (h.below (by have := hW.size; omega) (hW.mono (Nat.le_refl _)) |> fun r => ⟨r.count, r.le, r.max, fun hn => by
    obtain ⟨b, off, e, hb, hc⟩ := r.row hn
    exact ⟨b, off, e, by have := hW.size; omega, hc⟩, r.wf⟩) hl
  have HEND : Hid (∀ (xs : List GId) (y : GId) (ys : List GId) A' c' W, xs.length ≤ 8 → vP xs = true → vI y = true → ys = xs.filter (fun z => !eqI z y) → ys.length ≤ c' → OwnG GId.cells 24 3 W w.heap.size (.slice A' ys.length c') ys → Below w.heap.size w W → MNode cc w (.returned (.agg #[.int .i64 y.core, .int .i64 y.op, .int .i64 y.part, .slice A' ys.length c', .int .i64 cc.kind, .int .i64 cc.base, .int .i64 cc.bits, .int .i64 cc.rights, .int .i64 cc.width, .int .i64 cc.level, .bool cc.device])) W) := Lib.hid fun xs y ys A' c' W h1 h2 h3 h4 h5 h6 h7 => ⟨⟨y, ys, cc⟩, A', c', rfl, h5, rfl, by rw [h4]; exact node_ok hvc h3 h1 h2, h6, h7⟩
  generalize MNode cc w = EE at *
  unfold MIds at HIDS
  clear h hvc
  obtain ⟨a0, a1, a2, a3, a4, a5, a6⟩ := cc
  simp only [GC.val] at *
  have HCB := Lib.hid ((CB.new w ⟨a0, a1, a2, a3, a4, a5, a6⟩).next (belt (Below.refl _ _) (.cells #[.int .i64 0, .int .i64 0, .int .i64 0, .slice none 0 0, .int .i64 0, .int .i64 0, .int .i64 0, .int .i64 0, .int .i64 0, .int .i64 0, .bool false] 30)))
  have HZ0 := Lib.hid (NB.new (w.alloc (.cells #[.int .i64 a0, .int .i64 a1, .int .i64 a2, .int .i64 a3, .int .i64 a4, .int .i64 a5, .bool a6] 28)) ⟨0, 0, 0⟩ none 0 0 ⟨0, 0, 0, 0, 0, 0, false⟩)
  simp only [World.size_alloc] at HZ0
  have HB0 := Lib.hid (belt (belt (Below.refl _ w) (.cells #[.int .i64 a0, .int .i64 a1, .int .i64 a2, .int .i64 a3, .int .i64 a4, .int .i64 a5, .bool a6] 28)) (.cells #[.int .i64 0, .int .i64 0, .int .i64 0, .slice none 0 0, .int .i64 0, .int .i64 0, .int .i64 0, .int .i64 0, .int .i64 0, .int .i64 0, .bool false] 30))
  have HSC : Hid (∀ (W : World) (p : Value) (k : Nat), w.heap.size ≤ k → Below w.heap.size w W → ∀ j, Below w.heap.size w (W.setCell ⟨k, j, none⟩ p)) := Lib.hid fun W p k hk hb j => hb.setCell (p := ⟨k, j, none⟩) hk p
  have HSZ : Hid (((w.alloc (.cells #[.int .i64 a0, .int .i64 a1, .int .i64 a2, .int .i64 a3, .int .i64 a4, .int .i64 a5, .bool a6] 28)).alloc (.cells #[.int .i64 0, .int .i64 0, .int .i64 0, .slice none 0 0, .int .i64 0, .int .i64 0, .int .i64 0, .int .i64 0, .int .i64 0, .int .i64 0, .bool false] 30)).heap.size = w.heap.size + 2) := Lib.hid (by simp)
  go_enter Try.func5, Try.ntmps5
  go_upto_region 1 with fail
  generalize (w.alloc (.cells #[.int .i64 a0, .int .i64 a1, .int .i64 a2, .int .i64 a3, .int .i64 a4, .int .i64 a5, .bool a6] 28)).alloc (.cells #[.int .i64 0, .int .i64 0, .int .i64 0, .slice none 0 0, .int .i64 0, .int .i64 0, .int .i64 0, .int .i64 0, .int .i64 0, .int .i64 0, .bool false] 30) = w9 at *
  obtain ⟨q0, q1, q2, q3, q4, q5, q6⟩ := HCB.out.cells
  have hcb := HCB.out.lt
  simp only at q0 q1 q2 q3 q4 q5 q6
  have hS := (Below.refl w9.heap.size w9).drew
  refine wp_region_gt (S := fun W => Below w9.heap.size w9 W) (.fl 0 (.fl 1 (.fl 2 (.fl 4 (.two 3 6 (.fl 5 (.op 6 (.op 7 .nil))) (.op 3 (.fl 5 (.op 7 .nil)))))))) (by kernel_rfl) (by kernel_rfl) (by kernel_rfl) (by kernel_rfl) (by intro c a d v w h; cases d <;> exact h) hS ?_
  iterate 4
    (first
      | (refine wpGT_float (v := ?_) (by simp only [List.getElem?_toArray, List.getElem?_cons_succ, List.getElem?_cons_zero]; rfl) (by rfl) ?_ ?_
         rotate_left
         · (intro W hW; have t0 := (hW.cell (p := ⟨w.heap.size, 0, none⟩) hcb).trans q0; have t1 := (hW.cell (p := ⟨w.heap.size, 1, none⟩) hcb).trans q1; have t2 := (hW.cell (p := ⟨w.heap.size, 2, none⟩) hcb).trans q2; have t3 := (hW.cell (p := ⟨w.heap.size, 3, none⟩) hcb).trans q3; have t4 := (hW.cell (p := ⟨w.heap.size, 4, none⟩) hcb).trans q4; have t5 := (hW.cell (p := ⟨w.heap.size, 5, none⟩) hcb).trans q5; have t6 := (hW.cell (p := ⟨w.heap.size, 6, none⟩) hcb).trans q6; (try simp only at *); go_simp; try with_reducible rfl)
         simp only [Act.put, List.setIfInBounds_toArray, List.set_cons_zero, List.set_cons_succ])
      | (refine wpGT_skip (by simp only [List.getElem?_toArray, List.getElem?_cons_succ, List.getElem?_cons_zero]; rfl) (by rfl) ?_
         simp only [Act.put, List.setIfInBounds_toArray, List.set_cons_zero, List.set_cons_succ]))
  refine wpGT_two ?_ ?_
  · refine wpOp_call (by simp only [List.getElem?_toArray, List.getElem?_cons_succ, List.getElem?_cons_zero]; rfl) (by rfl) fun K hK => ?_
    go_simp
    go_fit (HID.out _ _ _ _)
    rintro e wn ⟨⟨yc, yo, yp⟩, hy, rfl, hbn⟩
    simp only [GId.val]
    have hS1 : Below w9.heap.size w9 wn := beln hS hbn
    go_simp
    refine hK _ _ hS1 ?_
    clear hK K
    try simp only [Act.put, List.setIfInBounds_toArray, List.set_cons_zero, List.set_cons_succ]
    iterate 1
      (first
        | (refine wpGT_float (v := ?_) (by simp only [List.getElem?_toArray, List.getElem?_cons_succ, List.getElem?_cons_zero]; rfl) (by rfl) ?_ ?_
           rotate_left
           · (intro W hW; have t0 := (hW.cell (p := ⟨w.heap.size, 0, none⟩) hcb).trans q0; have t1 := (hW.cell (p := ⟨w.heap.size, 1, none⟩) hcb).trans q1; have t2 := (hW.cell (p := ⟨w.heap.size, 2, none⟩) hcb).trans q2; have t3 := (hW.cell (p := ⟨w.heap.size, 3, none⟩) hcb).trans q3; have t4 := (hW.cell (p := ⟨w.heap.size, 4, none⟩) hcb).trans q4; have t5 := (hW.cell (p := ⟨w.heap.size, 5, none⟩) hcb).trans q5; have t6 := (hW.cell (p := ⟨w.heap.size, 6, none⟩) hcb).trans q6; (try simp only at *); go_simp; try with_reducible rfl)
           simp only [Act.put, List.setIfInBounds_toArray, List.set_cons_zero, List.set_cons_succ])
        | (refine wpGT_skip (by simp only [List.getElem?_toArray, List.getElem?_cons_succ, List.getElem?_cons_zero]; rfl) (by rfl) ?_
           simp only [Act.put, List.setIfInBounds_toArray, List.set_cons_zero, List.set_cons_succ]))
    refine wpGT_call (by simp only [List.getElem?_toArray, List.getElem?_cons_succ, List.getElem?_cons_zero]; rfl) (by rfl) fun K hK => ?_
    go_simp
    refine hK _ _ (belt hS1 _) ?_
    clear hK K
    try simp only [Act.put, List.setIfInBounds_toArray, List.set_cons_zero, List.set_cons_succ]
    refine wpGT_call (by simp only [List.getElem?_toArray, List.getElem?_cons_succ, List.getElem?_cons_zero]; rfl) (by rfl) fun K hK => ?_
    go_simp
    refine hK _ _ (belt hS1 _) ?_
    clear hK K
    try simp only [Act.put, List.setIfInBounds_toArray, List.set_cons_zero, List.set_cons_succ]
    refine wpGT_nil ?_
    have HN9 := Lib.hid (NB.new wn ⟨yc, yo, yp⟩ none 0 0 ⟨a0, a1, a2, a3, a4, a5, a6⟩)
    have HB9 : Hid (Below w9.heap.size w9 (wn.alloc (.cells #[.int .i64 yc, .int .i64 yo, .int .i64 yp, .slice none 0 0, .int .i64 a0, .int .i64 a1, .int .i64 a2, .int .i64 a3, .int .i64 a4, .int .i64 a5, .bool a6] 30))) := Lib.hid (belt hS1 _)
    have HM : Hid (w.heap.size + 2 ≤ wn.heap.size) := Lib.hid (by have := hS1.size; have := HSZ.out; omega)
    have HMQ : Hid (wn.heap.size + 1 ≤ (wn.alloc (.cells #[.int .i64 yc, .int .i64 yo, .int .i64 yp, .slice none 0 0, .int .i64 a0, .int .i64 a1, .int .i64 a2, .int .i64 a3, .int .i64 a4, .int .i64 a5, .bool a6] 30)).heap.size) := Lib.hid (by simp)
    have HBX := Lib.hid (beln HB0.out HB9.out)
    have HZ5 := Lib.hid (HZ0.out.next HB9.out)
    clear HB9 HZ0 HB0 hS hS1 hbn q0 q1 q2 q3 q4 q5 q6
    simp only at HN9
    generalize wn.alloc (.cells #[.int .i64 yc, .int .i64 yo, .int .i64 yp, .slice none 0 0, .int .i64 a0, .int .i64 a1, .int .i64 a2, .int .i64 a3, .int .i64 a4, .int .i64 a5, .bool a6] 30) = wq at *
    generalize wn.heap.size = M at *
    have HQY := Lib.hid hy
    clear hy
    go_wp2_with fail
    go_fit (HIDS.out _ HBX.out)
    rintro e w6 ⟨xs, v6, rfl, hx8, hvp, ho6, hb6⟩
    obtain ⟨A6, c6, rfl, _, _, _⟩ := ho6.row GId.len
    have HX6 := Lib.hid (OwnG.low (b' := M + 1) ho6 HMQ.out)
    have HN6 := Lib.hid (HN9.out.next hb6)
    have HZ6 := Lib.hid (HZ5.out.next hb6)
    have HB6 := Lib.hid (beln HBX.out hb6)
    have HVP := Lib.hid hvp
    clear ho6 hb6 hvp HN9 HZ5 HBX HIDS
    have HY0 : Hid (([] : List GId) = (xs.take 0).filter fun z => !eqI z ⟨yc, yo, yp⟩) := Lib.hid (by simp)
    go_wp2
    go_loopw [13] (fun vi wr => ∃ (k : Nat) (ys : List GId) (A5 : Option Addr) (c5 : Nat), vi = .int .i64 k ∧ k ≤ xs.length ∧ Hid (ys = (xs.take k).filter fun z => !eqI z ⟨yc, yo, yp⟩) ∧ Hid (ys.length ≤ c5) ∧ Hid (NB wr M ⟨yc, yo, yp⟩ A5 ys.length c5 ⟨a0, a1, a2, a3, a4, a5, a6⟩) ∧ Hid (OwnG GId.cells 24 3 wr (M + 1) (.slice A5 ys.length c5) ys) ∧ Hid (OwnG GId.cells 24 3 wr (M + 1) (.slice A6 xs.length c6) xs) ∧ Hid (NB wr (w.heap.size + 1) ⟨0, 0, 0⟩ none 0 0 ⟨0, 0, 0, 0, 0, 0, false⟩) ∧ Hid (Below w.heap.size w wr)) (fun vi _ => xs.length - (intOf vi).toNat)
    case atStart => exact ⟨0, [], none, 0, rfl, Nat.zero_le _, HY0, Lib.hid (Nat.le_refl _), HN6, Lib.hid (OwnG.nil _ _), HX6, HZ6, HB6⟩
    case round =>
      obtain ⟨k, ys, A5, c5, rfl, hk, HY, HC, HNM, HO, HX, HZ, HB⟩ := hrel
      generalize wr = w9 at *
      obtain ⟨d0, d1, d2, d3, d4, d5, d6, d7, d8, d9, d10⟩ := HNM.out.cells
      have hMl := HNM.out.lt
      simp only at d0 d1 d2 d3 d4 d5 d6 d7 d8 d9 d10
      rcases Nat.lt_or_ge k xs.length with hlt | hge
      rotate_left
      · obtain rfl : k = xs.length := by omega
        obtain ⟨z0, z1, z2, z3, z4, z5, z6, z7, z8, z9, z10⟩ := HZ.out.cells
        have zf := HZ.out.frz
        have zl := HZ.out.lt
        simp only at z0 z1 z2 z3 z4 z5 z6 z7 z8 z9 z10
        have HE := Lib.hid fun W => HEND.out xs ⟨yc, yo, yp⟩ ys A5 c5 W hx8 HVP.out HQY.out (by rw [HY.out, List.take_length]) HC.out
        go_wp2
        refine bodyPost_ret (v := .agg #[.int .i64 yc, .int .i64 yo, .int .i64 yp, .slice A5 ys.length c5, .int .i64 a0, .int .i64 a1, .int .i64 a2, .int .i64 a3, .int .i64 a4, .int .i64 a5, .bool a6]) (by simp [results, Try.results5, go_sem, z0, z1, z2, z3, z4, z5, z6, z7, z8, z9, z10]) rfl ?_
        refine HE.out _ ?_ ?_
        · refine OwnG.low (b := M + 1) ?_ (by have := HM.out; omega)
          repeat (refine OwnG.setOther ?_ (by have := HM.out; omega) _ _)
          exact HO.out
        · repeat (refine HSC.out _ _ _ (by omega) ?_ _)
          exact HB.out
      obtain ⟨bx, ox, hax, hbx, x0, x1, x2⟩ := (OwnG.rowAt GId.len HX.out).2.gid hlt
      obtain rfl := hax
      have hyl : ys.length ≤ 8 := by
        rw [HY.out]
        exact Nat.le_trans (List.length_filter_le _ _) (by rw [List.length_take]; omega)
      have HYN := Lib.hid (List.take_succ_eq_append_getElem hlt)
      have HEQ := Lib.hid fun W => id_eql xs[k] ⟨yc, yo, yp⟩ W
      have HYS : Hid (eqI xs[k] ⟨yc, yo, yp⟩ = false → (ys ++ [xs[k]]) = (xs.take (k + 1)).filter fun z => !eqI z ⟨yc, yo, yp⟩) := Lib.hid fun h => by rw [HYN.out, List.filter_append, ← HY.out]; simp [h]
      have HYT : Hid (eqI xs[k] ⟨yc, yo, yp⟩ = true → ys = (xs.take (k + 1)).filter fun z => !eqI z ⟨yc, yo, yp⟩) := Lib.hid fun h => by rw [HYN.out, List.filter_append, ← HY.out]; simp [h]
      have HCP := Lib.hid fun W (hW : Below w9.heap.size w9 W) => rCopy_any ys A5 c5 W ((OwnG.rowAt GId.len HO.out).2.next hW) (by omega)
      clear HYN
      generalize eqI xs[k] ⟨yc, yo, yp⟩ = ek at *
      generalize xs[k] = zz at *
      obtain ⟨zc, zo, zp⟩ := zz
      simp only [GId.val] at HEQ x0 x1 x2
      have f1 : decide ((k : Int) < (xs.length : Int)) = true := by simp; omega
      have heq := fun W => HEQ.out W
      rcases ek with _ | _
      rotate_left
      · have HY7 := Lib.hid (HYT.out rfl)
        have HBD := Lib.hid HB.out.drew
        have HND := Lib.hid (HNM.out.next (Below.refl _ w9).drew)
        have HOD := Lib.hid (HO.out.keep (w' := w9.drew) fun g hg => rfl)
        have HXD := Lib.hid (HX.out.keep (w' := w9.drew) fun g hg => rfl)
        have HZD := Lib.hid (HZ.out.next (Below.refl _ w9).drew)
        go_upto_region 6 with fail
        go_region
        clear d0 d1 d2 d3 d4 d5 d6 d7 d8 d9 d10 x0 x1 x2 heq
        go_wp2
        go_roundw
        case rel => exact ⟨k + 1, ys, A5, c5, by go_num, by omega, HY7, HC, HND, HOD, HXD, HZD, HBD⟩
        case measure => simp [intOf]; omega
      · have HY7 := Lib.hid (HYS.out rfl)
        go_upto_region 6 with fail
        go_region
        clear heq
        go_upto_region 7 with fail
        replace HB := Lib.hid HB.out.drew
        replace HNM := Lib.hid (HNM.out.next (Below.refl _ w9).drew)
        replace HO := Lib.hid (HO.out.keep (w' := w9.drew) fun g hg => rfl)
        replace HX := Lib.hid (HX.out.keep (w' := w9.drew) fun g hg => rfl)
        replace HZ := Lib.hid (HZ.out.next (Below.refl _ w9).drew)
        replace HCP := Lib.hid fun W (hW : Below w9.drew.heap.size w9.drew W) => HCP.out W (beln (Below.refl _ w9).drew hW)
        replace x0 : w9.drew.cell? ⟨bx, ox + k * 3, none⟩ = some (.int .i64 zc) := x0
        replace x1 : w9.drew.cell? ⟨bx, ox + k * 3 + 1, none⟩ = some (.int .i64 zo) := x1
        replace x2 : w9.drew.cell? ⟨bx, ox + k * 3 + 2, none⟩ = some (.int .i64 zp) := x2
        replace hbx : bx < w9.drew.heap.size := hbx
        clear d0 d1 d2 d3 d4 d5 d6 d7 d8 d9 d10 hMl
        generalize w9.drew = wd at *
        obtain ⟨d0, d1, d2, d3, d4, d5, d6, d7, d8, d9, d10⟩ := HNM.out.cells
        have hMl := HNM.out.lt
        simp only at d0 d1 d2 d3 d4 d5 d6 d7 d8 d9 d10
        have hS : Below wd.heap.size wd wd.drew := (Below.refl wd.heap.size wd).drew
        refine wp_region_gt (S := fun W => Below wd.heap.size wd W) (.fl 0 (.fl 1 (.fl 3 (.fl 4 (.fl 5 (.fl 6 (.two 2 7 (.op 7 (.op 8 (.fl 9 .nil))) (.op 2 (.op 8 (.fl 9 .nil)))))))))) (by kernel_rfl) (by kernel_rfl) (by kernel_rfl) (by kernel_rfl) (by intro c a d v w h; cases d <;> exact h) hS ?_
        iterate 6
          (first
            | (refine wpGT_float (v := ?_) (by simp only [List.getElem?_toArray, List.getElem?_cons_succ, List.getElem?_cons_zero]; rfl) (by rfl) ?_ ?_
               rotate_left
               · (intro W hW; have t0 := (hW.cell (p := ⟨M, 0, none⟩) hMl).trans d0; have t1 := (hW.cell (p := ⟨M, 1, none⟩) hMl).trans d1; have t2 := (hW.cell (p := ⟨M, 2, none⟩) hMl).trans d2; have t3 := (hW.cell (p := ⟨M, 3, none⟩) hMl).trans d3; have s0 := (hW.cell (p := ⟨bx, ox + k * 3, none⟩) hbx).trans x0; have s1 := (hW.cell (p := ⟨bx, ox + k * 3 + 1, none⟩) hbx).trans x1; have s2 := (hW.cell (p := ⟨bx, ox + k * 3 + 2, none⟩) hbx).trans x2; (try simp only at *); go_simp; try with_reducible rfl)
               simp only [Act.put, List.setIfInBounds_toArray, List.set_cons_zero, List.set_cons_succ])
            | (refine wpGT_skip (by simp only [List.getElem?_toArray, List.getElem?_cons_succ, List.getElem?_cons_zero]; rfl) (by rfl) ?_
               simp only [Act.put, List.setIfInBounds_toArray, List.set_cons_zero, List.set_cons_succ]))
        refine wpGT_two ?_ ?_
        · refine wpOp_call (by simp only [List.getElem?_toArray, List.getElem?_cons_succ, List.getElem?_cons_zero]; rfl) (by rfl) fun K hK => ?_
          go_simp
          go_fit (HCP.out _ hS)
          rintro e wn ⟨v, rfl, ho, hbn⟩
          obtain ⟨A5, c5', rfl, _, _, _⟩ := ho.row GId.len
          have hS5 : Below wd.heap.size wd wn := beln hS hbn
          go_simp
          refine hK _ _ hS5 ?_
          clear hK K
          try simp only [Act.put, List.setIfInBounds_toArray, List.set_cons_zero, List.set_cons_succ]
          obtain ⟨v9, w7, hrun9, hown9, hg9, hlowd⟩ := OwnI.lit ho hbn.size ⟨zc, zo, zp⟩ (by omega)
          have hb9 : Below wd.heap.size wd w7 := beln hS ((hbn.alloc hbn.size (.cells #[.int .i64 zc, .int .i64 zo, .int .i64 zp] 24)).grown hg9 (by have := hbn.size; simp at this ⊢; omega) hlowd)
          have hown9 := OwnG.low (b' := M + 1) hown9 (by show M + 1 ≤ wd.heap.size; exact HNM.out.lt)
          refine wpGT_call (by simp only [List.getElem?_toArray, List.getElem?_cons_succ, List.getElem?_cons_zero]; rfl) (by rfl) fun K hK => ?_
          go_simp
          refine hK _ _ (belt hS5 _) ?_
          clear hK K
          try simp only [Act.put, List.setIfInBounds_toArray, List.set_cons_zero, List.set_cons_succ]
          have hS9 : Below wd.heap.size wd w7 := hb9
          refine wpGT_call (by simp only [List.getElem?_toArray, List.getElem?_cons_succ, List.getElem?_cons_zero]; rfl) (by rfl) fun K hK => ?_
          refine oper_app10 (R := fun v W => v = v9 ∧ W = w7) ⟨v9, w7, hrun9, rfl, rfl⟩ rfl rfl rfl rfl ?_
          rintro v8 w8 ⟨rfl, rfl⟩
          obtain ⟨A9, c9, rfl, hc9, _, _⟩ := hown9.row GId.len
          rw [List.length_append, List.length_singleton] at hown9 hc9 ⊢
          have HC9 := Lib.hid hc9
          refine hK _ _ hS9 ?_
          clear hK K hc9
          try simp only [Act.put, List.setIfInBounds_toArray, List.set_cons_zero, List.set_cons_succ]
          iterate 1
            (first
              | (refine wpGT_float (v := ?_) (by simp only [List.getElem?_toArray, List.getElem?_cons_succ, List.getElem?_cons_zero]; rfl) (by rfl) ?_ ?_
                 rotate_left
                 · (intro W hW; skip; go_simp; try with_reducible rfl)
                 simp only [Act.put, List.setIfInBounds_toArray, List.set_cons_zero, List.set_cons_succ])
              | (refine wpGT_skip (by simp only [List.getElem?_toArray, List.getElem?_cons_succ, List.getElem?_cons_zero]; rfl) (by rfl) ?_
                 simp only [Act.put, List.setIfInBounds_toArray, List.set_cons_zero, List.set_cons_succ]))
          refine wpGT_nil ?_
          clear hS9 hrun9
          have HB8 : Hid (Below wd.heap.size wd w8) := Lib.hid hb9
          have HO8 := Lib.hid hown9
          have HX8 := Lib.hid (HX.out.keep fun g hg => HB8.out.block g (HX.out.lt g hg).2)
          have HN8 := Lib.hid (HNM.out.next HB8.out)
          have HZ8 := Lib.hid (HZ.out.next HB8.out)
          have HBW8 := Lib.hid (beln HB.out HB8.out)
          clear hb9 hown9 hS
          obtain ⟨d0, d1, d2, d3, d4, d5, d6, d7, d8, d9, d10⟩ := HN8.out.cells
          have df := HN8.out.frz
          have dl := HN8.out.lt
          simp only at d0 d1 d2 d3 d4 d5 d6 d7 d8 d9 d10
          have HN9 := Lib.hid (HN8.out.setPath A9 (ys.length + 1) c9)
          have HX9 := Lib.hid (HX8.out.setOther (Nat.lt_succ_self M) 3 (.slice A9 (ys.length + 1) c9))
          have HO9 := Lib.hid (HO8.out.setOther (Nat.lt_succ_self M) 3 (.slice A9 (ys.length + 1) c9))
          have HZ9 : Hid (NB (w8.setCell ⟨M, 3, none⟩ (.slice A9 (ys.length + 1) c9)) (w.heap.size + 1) ⟨0, 0, 0⟩ none 0 0 ⟨0, 0, 0, 0, 0, 0, false⟩) := Lib.hid ((Below.heap_setCell w8 ⟨M, 3, none⟩ _ (w.heap.size + 1) (by have := HM.out; show w.heap.size + 1 ≠ M; omega)).trans HZ8.out)
          have HB9 : Hid (Below w.heap.size w (w8.setCell ⟨M, 3, none⟩ (.slice A9 (ys.length + 1) c9))) := Lib.hid (HBW8.out.setCell (p := ⟨M, 3, none⟩) (by have := HM.out; show w.heap.size ≤ M; omega) _)
          clear HN8 HX8 HO8 HZ8 HBW8 HB8
          go_wp2
          go_roundw
          case rel => exact ⟨k + 1, ys ++ [⟨zc, zo, zp⟩], A9, c9, by go_num, by omega, HY7, by simpa using HC9, by simpa using HN9, by simpa using HO9, HX9, HZ9, HB9⟩
          case measure => simp [intOf]; omega
        · refine wpOp_call (by simp only [List.getElem?_toArray, List.getElem?_cons_succ, List.getElem?_cons_zero]; rfl) (by rfl) fun K hK => ?_
          go_simp
          have hbl : Below wd.heap.size wd (wd.alloc (.cells #[.int .i64 zc, .int .i64 zo, .int .i64 zp] 24)).drew := (belt (Below.refl _ wd) _).drew
          refine hK _ _ hbl ?_
          clear hK K
          try simp only [Act.put, List.setIfInBounds_toArray, List.set_cons_zero, List.set_cons_succ]
          refine wpGT_call (by simp only [List.getElem?_toArray, List.getElem?_cons_succ, List.getElem?_cons_zero]; rfl) (by rfl) fun K hK => ?_
          go_simp
          go_fit (HCP.out _ hbl)
          rintro e wn ⟨v, rfl, ho, hbn⟩
          obtain ⟨A5, c5', rfl, _, _, _⟩ := ho.row GId.len
          have hS5 : Below wd.heap.size wd wn := beln hbl hbn
          go_simp
          refine hK _ _ hS5 ?_
          clear hK K
          try simp only [Act.put, List.setIfInBounds_toArray, List.set_cons_zero, List.set_cons_succ]
          have hlr := ((lit_id wd ⟨zc, zo, zp⟩).keep (w' := wn) (fun g hg => hbn.block g (by simpa using hg)))
          obtain ⟨v9, w7, hrun9, hown9, hg9, _⟩ := OwnG.app elt_id GId.len GId.one ho 1 hlr (by have := hbn.size; exact this) (by unfold maxLen; simp; omega) (by simp; omega)
          have hlowd : ∀ g, Value.ownBlock (.slice A5 _ c5') = some g → (wd.alloc (.cells #[.int .i64 zc, .int .i64 zo, .int .i64 zp] 24)).drew.heap.size ≤ g := fun g e => (ho.lt g e).1
          have hb9 : Below wd.heap.size wd w7 := beln hbl (hbn.grown hg9 hbn.size hlowd)
          have hown9 := OwnG.low (b' := M + 1) hown9 (by have := HNM.out.lt; simp; omega)
          have hS9 : Below wd.heap.size wd w7 := hb9
          refine wpGT_call (by simp only [List.getElem?_toArray, List.getElem?_cons_succ, List.getElem?_cons_zero]; rfl) (by rfl) fun K hK => ?_
          refine oper_app10 (R := fun v W => v = v9 ∧ W = w7) ⟨v9, w7, hrun9, rfl, rfl⟩ rfl rfl rfl rfl ?_
          rintro v8 w8 ⟨rfl, rfl⟩
          obtain ⟨A9, c9, rfl, hc9, _, _⟩ := hown9.row GId.len
          rw [List.length_append, List.length_singleton] at hown9 hc9 ⊢
          have HC9 := Lib.hid hc9
          refine hK _ _ hS9 ?_
          clear hK K hc9
          try simp only [Act.put, List.setIfInBounds_toArray, List.set_cons_zero, List.set_cons_succ]
          iterate 1
            (first
              | (refine wpGT_float (v := ?_) (by simp only [List.getElem?_toArray, List.getElem?_cons_succ, List.getElem?_cons_zero]; rfl) (by rfl) ?_ ?_
                 rotate_left
                 · (intro W hW; skip; go_simp; try with_reducible rfl)
                 simp only [Act.put, List.setIfInBounds_toArray, List.set_cons_zero, List.set_cons_succ])
              | (refine wpGT_skip (by simp only [List.getElem?_toArray, List.getElem?_cons_succ, List.getElem?_cons_zero]; rfl) (by rfl) ?_
                 simp only [Act.put, List.setIfInBounds_toArray, List.set_cons_zero, List.set_cons_succ]))
          refine wpGT_nil ?_
          clear hS9 hrun9
          have HB8 : Hid (Below wd.heap.size wd w8) := Lib.hid hb9
          have HO8 := Lib.hid hown9
          have HX8 := Lib.hid (HX.out.keep fun g hg => HB8.out.block g (HX.out.lt g hg).2)
          have HN8 := Lib.hid (HNM.out.next HB8.out)
          have HZ8 := Lib.hid (HZ.out.next HB8.out)
          have HBW8 := Lib.hid (beln HB.out HB8.out)
          clear hb9 hown9 hS
          obtain ⟨d0, d1, d2, d3, d4, d5, d6, d7, d8, d9, d10⟩ := HN8.out.cells
          have df := HN8.out.frz
          have dl := HN8.out.lt
          simp only at d0 d1 d2 d3 d4 d5 d6 d7 d8 d9 d10
          have HN9 := Lib.hid (HN8.out.setPath A9 (ys.length + 1) c9)
          have HX9 := Lib.hid (HX8.out.setOther (Nat.lt_succ_self M) 3 (.slice A9 (ys.length + 1) c9))
          have HO9 := Lib.hid (HO8.out.setOther (Nat.lt_succ_self M) 3 (.slice A9 (ys.length + 1) c9))
          have HZ9 : Hid (NB (w8.setCell ⟨M, 3, none⟩ (.slice A9 (ys.length + 1) c9)) (w.heap.size + 1) ⟨0, 0, 0⟩ none 0 0 ⟨0, 0, 0, 0, 0, 0, false⟩) := Lib.hid ((Below.heap_setCell w8 ⟨M, 3, none⟩ _ (w.heap.size + 1) (by have := HM.out; show w.heap.size + 1 ≠ M; omega)).trans HZ8.out)
          have HB9 : Hid (Below w.heap.size w (w8.setCell ⟨M, 3, none⟩ (.slice A9 (ys.length + 1) c9))) := Lib.hid (HBW8.out.setCell (p := ⟨M, 3, none⟩) (by have := HM.out; show w.heap.size ≤ M; omega) _)
          clear HN8 HX8 HO8 HZ8 HBW8 HB8
          go_wp2
          go_roundw
          case rel => exact ⟨k + 1, ys ++ [⟨zc, zo, zp⟩], A9, c9, by go_num, by omega, HY7, by simpa using HC9, by simpa using HN9, by simpa using HO9, HX9, HZ9, HB9⟩
          case measure => simp [intOf]; omega
  · refine wpOp_call (by simp only [List.getElem?_toArray, List.getElem?_cons_succ, List.getElem?_cons_zero]; rfl) (by rfl) fun K hK => ?_
    go_simp
    have hbl : Below w9.heap.size w9 (w9.alloc (.cells #[.int .i64 0, .int .i64 0, .int .i64 0, .slice none 0 0, .int .i64 0, .int .i64 0, .int .i64 0, .int .i64 0, .int .i64 0, .int .i64 0, .bool false] 30)).drew := (belt (Below.refl _ w9) _).drew
    refine hK _ _ hbl ?_
    clear hK K
    try simp only [Act.put, List.setIfInBounds_toArray, List.set_cons_zero, List.set_cons_succ]
    refine wpGT_call (by simp only [List.getElem?_toArray, List.getElem?_cons_succ, List.getElem?_cons_zero]; rfl) (by rfl) fun K hK => ?_
    go_simp
    go_fit (HID.out _ _ _ _)
    rintro e wn ⟨⟨yc, yo, yp⟩, hy, rfl, hbn⟩
    simp only [GId.val]
    have hS1 : Below w9.heap.size w9 wn := beln hbl hbn
    have HI0 := Lib.hid (((NB.new w9 ⟨0, 0, 0⟩ none 0 0 ⟨0, 0, 0, 0, 0, 0, false⟩).next (Below.refl _ _).drew).next hbn)
    go_simp
    refine hK _ _ hS1 ?_
    clear hK K
    try simp only [Act.put, List.setIfInBounds_toArray, List.set_cons_zero, List.set_cons_succ]
    iterate 1
      (first
        | (refine wpGT_float (v := ?_) (by simp only [List.getElem?_toArray, List.getElem?_cons_succ, List.getElem?_cons_zero]; rfl) (by rfl) ?_ ?_
           rotate_left
           · (intro W hW; have t0 := (hW.cell (p := ⟨w.heap.size, 0, none⟩) hcb).trans q0; have t1 := (hW.cell (p := ⟨w.heap.size, 1, none⟩) hcb).trans q1; have t2 := (hW.cell (p := ⟨w.heap.size, 2, none⟩) hcb).trans q2; have t3 := (hW.cell (p := ⟨w.heap.size, 3, none⟩) hcb).trans q3; have t4 := (hW.cell (p := ⟨w.heap.size, 4, none⟩) hcb).trans q4; have t5 := (hW.cell (p := ⟨w.heap.size, 5, none⟩) hcb).trans q5; have t6 := (hW.cell (p := ⟨w.heap.size, 6, none⟩) hcb).trans q6; (try simp only at *); go_simp; try with_reducible rfl)
           simp only [Act.put, List.setIfInBounds_toArray, List.set_cons_zero, List.set_cons_succ])
        | (refine wpGT_skip (by simp only [List.getElem?_toArray, List.getElem?_cons_succ, List.getElem?_cons_zero]; rfl) (by rfl) ?_
           simp only [Act.put, List.setIfInBounds_toArray, List.set_cons_zero, List.set_cons_succ]))
    obtain ⟨z0, z1, z2, z3, z4, z5, z6, z7, z8, z9, z10⟩ := HI0.out.cells
    have zf := HI0.out.frz
    have zl := HI0.out.lt
    simp only at z0 z1 z2 z3 z4 z5 z6 z7 z8 z9 z10
    refine wpGT_call (by simp only [List.getElem?_toArray, List.getElem?_cons_succ, List.getElem?_cons_zero]; rfl) (by rfl) fun K hK => ?_
    go_simp
    have HN9 : Hid (NB (((((((((((wn.setCell ⟨w9.heap.size, 0, none⟩ (.int .i64 yc)).setCell ⟨w9.heap.size, 1, none⟩ (.int .i64 yo)).setCell ⟨w9.heap.size, 2, none⟩ (.int .i64 yp)).setCell ⟨w9.heap.size, 3, none⟩ (.slice none 0 0)).setCell ⟨w9.heap.size, 4, none⟩ (.int .i64 a0)).setCell ⟨w9.heap.size, 5, none⟩ (.int .i64 a1)).setCell ⟨w9.heap.size, 6, none⟩ (.int .i64 a2)).setCell ⟨w9.heap.size, 7, none⟩ (.int .i64 a3)).setCell ⟨w9.heap.size, 8, none⟩ (.int .i64 a4)).setCell ⟨w9.heap.size, 9, none⟩ (.int .i64 a5)).setCell ⟨w9.heap.size, 10, none⟩ (.bool a6)) w9.heap.size ⟨yc, yo, yp⟩ none 0 0 ⟨a0, a1, a2, a3, a4, a5, a6⟩) := Lib.hid (HI0.out.store2 ⟨yc, yo, yp⟩ none 0 0 ⟨a0, a1, a2, a3, a4, a5, a6⟩)
    have HB9 : Hid (Below w9.heap.size w9 (((((((((((wn.setCell ⟨w9.heap.size, 0, none⟩ (.int .i64 yc)).setCell ⟨w9.heap.size, 1, none⟩ (.int .i64 yo)).setCell ⟨w9.heap.size, 2, none⟩ (.int .i64 yp)).setCell ⟨w9.heap.size, 3, none⟩ (.slice none 0 0)).setCell ⟨w9.heap.size, 4, none⟩ (.int .i64 a0)).setCell ⟨w9.heap.size, 5, none⟩ (.int .i64 a1)).setCell ⟨w9.heap.size, 6, none⟩ (.int .i64 a2)).setCell ⟨w9.heap.size, 7, none⟩ (.int .i64 a3)).setCell ⟨w9.heap.size, 8, none⟩ (.int .i64 a4)).setCell ⟨w9.heap.size, 9, none⟩ (.int .i64 a5)).setCell ⟨w9.heap.size, 10, none⟩ (.bool a6))) := Lib.hid (below11 hS1 _ _ _ _ _ _ _ _ _ _ _)
    refine hK _ _ HB9.out ?_
    clear hK K
    try simp only [Act.put, List.setIfInBounds_toArray, List.set_cons_zero, List.set_cons_succ]
    refine wpGT_nil ?_
    have HM : Hid (w.heap.size + 2 ≤ w9.heap.size) := Lib.hid (by have := HSZ.out; omega)
    have HMQ : Hid (w9.heap.size + 1 ≤ (((((((((((wn.setCell ⟨w9.heap.size, 0, none⟩ (.int .i64 yc)).setCell ⟨w9.heap.size, 1, none⟩ (.int .i64 yo)).setCell ⟨w9.heap.size, 2, none⟩ (.int .i64 yp)).setCell ⟨w9.heap.size, 3, none⟩ (.slice none 0 0)).setCell ⟨w9.heap.size, 4, none⟩ (.int .i64 a0)).setCell ⟨w9.heap.size, 5, none⟩ (.int .i64 a1)).setCell ⟨w9.heap.size, 6, none⟩ (.int .i64 a2)).setCell ⟨w9.heap.size, 7, none⟩ (.int .i64 a3)).setCell ⟨w9.heap.size, 8, none⟩ (.int .i64 a4)).setCell ⟨w9.heap.size, 9, none⟩ (.int .i64 a5)).setCell ⟨w9.heap.size, 10, none⟩ (.bool a6)).heap.size) := Lib.hid (by have := HN9.out.lt; omega)
    have HBX := Lib.hid (beln HB0.out HB9.out)
    have HZ5 := Lib.hid (HZ0.out.next HB9.out)
    clear HB9 HZ0 HB0 hS hS1 hbn hbl z0 z1 z2 z3 z4 z5 z6 z7 z8 z9 z10 zf zl HI0 q0 q1 q2 q3 q4 q5 q6
    generalize (((((((((((wn.setCell ⟨w9.heap.size, 0, none⟩ (.int .i64 yc)).setCell ⟨w9.heap.size, 1, none⟩ (.int .i64 yo)).setCell ⟨w9.heap.size, 2, none⟩ (.int .i64 yp)).setCell ⟨w9.heap.size, 3, none⟩ (.slice none 0 0)).setCell ⟨w9.heap.size, 4, none⟩ (.int .i64 a0)).setCell ⟨w9.heap.size, 5, none⟩ (.int .i64 a1)).setCell ⟨w9.heap.size, 6, none⟩ (.int .i64 a2)).setCell ⟨w9.heap.size, 7, none⟩ (.int .i64 a3)).setCell ⟨w9.heap.size, 8, none⟩ (.int .i64 a4)).setCell ⟨w9.heap.size, 9, none⟩ (.int .i64 a5)).setCell ⟨w9.heap.size, 10, none⟩ (.bool a6)) = wq at *
    generalize w9.heap.size = M at *
    have HQY := Lib.hid hy
    clear hy
    go_wp2_with fail
    go_fit (HIDS.out _ HBX.out)
    rintro e w6 ⟨xs, v6, rfl, hx8, hvp, ho6, hb6⟩
    obtain ⟨A6, c6, rfl, _, _, _⟩ := ho6.row GId.len
    have HX6 := Lib.hid (OwnG.low (b' := M + 1) ho6 HMQ.out)
    have HN6 := Lib.hid (HN9.out.next hb6)
    have HZ6 := Lib.hid (HZ5.out.next hb6)
    have HB6 := Lib.hid (beln HBX.out hb6)
    have HVP := Lib.hid hvp
    clear ho6 hb6 hvp HN9 HZ5 HBX HIDS
    have HY0 : Hid (([] : List GId) = (xs.take 0).filter fun z => !eqI z ⟨yc, yo, yp⟩) := Lib.hid (by simp)
    go_wp2
    go_loopw [13] (fun vi wr => ∃ (k : Nat) (ys : List GId) (A5 : Option Addr) (c5 : Nat), vi = .int .i64 k ∧ k ≤ xs.length ∧ Hid (ys = (xs.take k).filter fun z => !eqI z ⟨yc, yo, yp⟩) ∧ Hid (ys.length ≤ c5) ∧ Hid (NB wr M ⟨yc, yo, yp⟩ A5 ys.length c5 ⟨a0, a1, a2, a3, a4, a5, a6⟩) ∧ Hid (OwnG GId.cells 24 3 wr (M + 1) (.slice A5 ys.length c5) ys) ∧ Hid (OwnG GId.cells 24 3 wr (M + 1) (.slice A6 xs.length c6) xs) ∧ Hid (NB wr (w.heap.size + 1) ⟨0, 0, 0⟩ none 0 0 ⟨0, 0, 0, 0, 0, 0, false⟩) ∧ Hid (Below w.heap.size w wr)) (fun vi _ => xs.length - (intOf vi).toNat)
    case atStart => exact ⟨0, [], none, 0, rfl, Nat.zero_le _, HY0, Lib.hid (Nat.le_refl _), HN6, Lib.hid (OwnG.nil _ _), HX6, HZ6, HB6⟩
    case round =>
      obtain ⟨k, ys, A5, c5, rfl, hk, HY, HC, HNM, HO, HX, HZ, HB⟩ := hrel
      generalize wr = w9 at *
      obtain ⟨d0, d1, d2, d3, d4, d5, d6, d7, d8, d9, d10⟩ := HNM.out.cells
      have hMl := HNM.out.lt
      simp only at d0 d1 d2 d3 d4 d5 d6 d7 d8 d9 d10
      rcases Nat.lt_or_ge k xs.length with hlt | hge
      rotate_left
      · obtain rfl : k = xs.length := by omega
        obtain ⟨z0, z1, z2, z3, z4, z5, z6, z7, z8, z9, z10⟩ := HZ.out.cells
        have zf := HZ.out.frz
        have zl := HZ.out.lt
        simp only at z0 z1 z2 z3 z4 z5 z6 z7 z8 z9 z10
        have HE := Lib.hid fun W => HEND.out xs ⟨yc, yo, yp⟩ ys A5 c5 W hx8 HVP.out HQY.out (by rw [HY.out, List.take_length]) HC.out
        go_wp2
        refine bodyPost_ret (v := .agg #[.int .i64 yc, .int .i64 yo, .int .i64 yp, .slice A5 ys.length c5, .int .i64 a0, .int .i64 a1, .int .i64 a2, .int .i64 a3, .int .i64 a4, .int .i64 a5, .bool a6]) (by simp [results, Try.results5, go_sem, z0, z1, z2, z3, z4, z5, z6, z7, z8, z9, z10]) rfl ?_
        refine HE.out _ ?_ ?_
        · refine OwnG.low (b := M + 1) ?_ (by have := HM.out; omega)
          repeat (refine OwnG.setOther ?_ (by have := HM.out; omega) _ _)
          exact HO.out
        · repeat (refine HSC.out _ _ _ (by omega) ?_ _)
          exact HB.out
      obtain ⟨bx, ox, hax, hbx, x0, x1, x2⟩ := (OwnG.rowAt GId.len HX.out).2.gid hlt
      obtain rfl := hax
      have hyl : ys.length ≤ 8 := by
        rw [HY.out]
        exact Nat.le_trans (List.length_filter_le _ _) (by rw [List.length_take]; omega)
      have HYN := Lib.hid (List.take_succ_eq_append_getElem hlt)
      have HEQ := Lib.hid fun W => id_eql xs[k] ⟨yc, yo, yp⟩ W
      have HYS : Hid (eqI xs[k] ⟨yc, yo, yp⟩ = false → (ys ++ [xs[k]]) = (xs.take (k + 1)).filter fun z => !eqI z ⟨yc, yo, yp⟩) := Lib.hid fun h => by rw [HYN.out, List.filter_append, ← HY.out]; simp [h]
      have HYT : Hid (eqI xs[k] ⟨yc, yo, yp⟩ = true → ys = (xs.take (k + 1)).filter fun z => !eqI z ⟨yc, yo, yp⟩) := Lib.hid fun h => by rw [HYN.out, List.filter_append, ← HY.out]; simp [h]
      have HCP := Lib.hid fun W (hW : Below w9.heap.size w9 W) => rCopy_any ys A5 c5 W ((OwnG.rowAt GId.len HO.out).2.next hW) (by omega)
      clear HYN
      generalize eqI xs[k] ⟨yc, yo, yp⟩ = ek at *
      generalize xs[k] = zz at *
      obtain ⟨zc, zo, zp⟩ := zz
      simp only [GId.val] at HEQ x0 x1 x2
      have f1 : decide ((k : Int) < (xs.length : Int)) = true := by simp; omega
      have heq := fun W => HEQ.out W
      rcases ek with _ | _
      rotate_left
      · have HY7 := Lib.hid (HYT.out rfl)
        have HBD := Lib.hid HB.out.drew
        have HND := Lib.hid (HNM.out.next (Below.refl _ w9).drew)
        have HOD := Lib.hid (HO.out.keep (w' := w9.drew) fun g hg => rfl)
        have HXD := Lib.hid (HX.out.keep (w' := w9.drew) fun g hg => rfl)
        have HZD := Lib.hid (HZ.out.next (Below.refl _ w9).drew)
        go_upto_region 6 with fail
        go_region
        clear d0 d1 d2 d3 d4 d5 d6 d7 d8 d9 d10 x0 x1 x2 heq
        go_wp2
        go_roundw
        case rel => exact ⟨k + 1, ys, A5, c5, by go_num, by omega, HY7, HC, HND, HOD, HXD, HZD, HBD⟩
        case measure => simp [intOf]; omega
      · have HY7 := Lib.hid (HYS.out rfl)
        go_upto_region 6 with fail
        go_region
        clear heq
        go_upto_region 7 with fail
        replace HB := Lib.hid HB.out.drew
        replace HNM := Lib.hid (HNM.out.next (Below.refl _ w9).drew)
        replace HO := Lib.hid (HO.out.keep (w' := w9.drew) fun g hg => rfl)
        replace HX := Lib.hid (HX.out.keep (w' := w9.drew) fun g hg => rfl)
        replace HZ := Lib.hid (HZ.out.next (Below.refl _ w9).drew)
        replace HCP := Lib.hid fun W (hW : Below w9.drew.heap.size w9.drew W) => HCP.out W (beln (Below.refl _ w9).drew hW)
        replace x0 : w9.drew.cell? ⟨bx, ox + k * 3, none⟩ = some (.int .i64 zc) := x0
        replace x1 : w9.drew.cell? ⟨bx, ox + k * 3 + 1, none⟩ = some (.int .i64 zo) := x1
        replace x2 : w9.drew.cell? ⟨bx, ox + k * 3 + 2, none⟩ = some (.int .i64 zp) := x2
        replace hbx : bx < w9.drew.heap.size := hbx
        clear d0 d1 d2 d3 d4 d5 d6 d7 d8 d9 d10 hMl
        generalize w9.drew = wd at *
        obtain ⟨d0, d1, d2, d3, d4, d5, d6, d7, d8, d9, d10⟩ := HNM.out.cells
        have hMl := HNM.out.lt
        simp only at d0 d1 d2 d3 d4 d5 d6 d7 d8 d9 d10
        have hS : Below wd.heap.size wd wd.drew := (Below.refl wd.heap.size wd).drew
        refine wp_region_gt (S := fun W => Below wd.heap.size wd W) (.fl 0 (.fl 1 (.fl 3 (.fl 4 (.fl 5 (.fl 6 (.two 2 7 (.op 7 (.op 8 (.fl 9 .nil))) (.op 2 (.op 8 (.fl 9 .nil)))))))))) (by kernel_rfl) (by kernel_rfl) (by kernel_rfl) (by kernel_rfl) (by intro c a d v w h; cases d <;> exact h) hS ?_
        iterate 6
          (first
            | (refine wpGT_float (v := ?_) (by simp only [List.getElem?_toArray, List.getElem?_cons_succ, List.getElem?_cons_zero]; rfl) (by rfl) ?_ ?_
               rotate_left
               · (intro W hW; have t0 := (hW.cell (p := ⟨M, 0, none⟩) hMl).trans d0; have t1 := (hW.cell (p := ⟨M, 1, none⟩) hMl).trans d1; have t2 := (hW.cell (p := ⟨M, 2, none⟩) hMl).trans d2; have t3 := (hW.cell (p := ⟨M, 3, none⟩) hMl).trans d3; have s0 := (hW.cell (p := ⟨bx, ox + k * 3, none⟩) hbx).trans x0; have s1 := (hW.cell (p := ⟨bx, ox + k * 3 + 1, none⟩) hbx).trans x1; have s2 := (hW.cell (p := ⟨bx, ox + k * 3 + 2, none⟩) hbx).trans x2; (try simp only at *); go_simp; try with_reducible rfl)
               simp only [Act.put, List.setIfInBounds_toArray, List.set_cons_zero, List.set_cons_succ])
            | (refine wpGT_skip (by simp only [List.getElem?_toArray, List.getElem?_cons_succ, List.getElem?_cons_zero]; rfl) (by rfl) ?_
               simp only [Act.put, List.setIfInBounds_toArray, List.set_cons_zero, List.set_cons_succ]))
        refine wpGT_two ?_ ?_
        · refine wpOp_call (by simp only [List.getElem?_toArray, List.getElem?_cons_succ, List.getElem?_cons_zero]; rfl) (by rfl) fun K hK => ?_
          go_simp
          go_fit (HCP.out _ hS)
          rintro e wn ⟨v, rfl, ho, hbn⟩
          obtain ⟨A5, c5', rfl, _, _, _⟩ := ho.row GId.len
          have hS5 : Below wd.heap.size wd wn := beln hS hbn
          go_simp
          refine hK _ _ hS5 ?_
          clear hK K
          try simp only [Act.put, List.setIfInBounds_toArray, List.set_cons_zero, List.set_cons_succ]
          obtain ⟨v9, w7, hrun9, hown9, hg9, hlowd⟩ := OwnI.lit ho hbn.size ⟨zc, zo, zp⟩ (by omega)
          have hb9 : Below wd.heap.size wd w7 := beln hS ((hbn.alloc hbn.size (.cells #[.int .i64 zc, .int .i64 zo, .int .i64 zp] 24)).grown hg9 (by have := hbn.size; simp at this ⊢; omega) hlowd)
          have hown9 := OwnG.low (b' := M + 1) hown9 (by show M + 1 ≤ wd.heap.size; exact HNM.out.lt)
          refine wpGT_call (by simp only [List.getElem?_toArray, List.getElem?_cons_succ, List.getElem?_cons_zero]; rfl) (by rfl) fun K hK => ?_
          go_simp
          refine hK _ _ (belt hS5 _) ?_
          clear hK K
          try simp only [Act.put, List.setIfInBounds_toArray, List.set_cons_zero, List.set_cons_succ]
          have hS9 : Below wd.heap.size wd w7 := hb9
          refine wpGT_call (by simp only [List.getElem?_toArray, List.getElem?_cons_succ, List.getElem?_cons_zero]; rfl) (by rfl) fun K hK => ?_
          refine oper_app10 (R := fun v W => v = v9 ∧ W = w7) ⟨v9, w7, hrun9, rfl, rfl⟩ rfl rfl rfl rfl ?_
          rintro v8 w8 ⟨rfl, rfl⟩
          obtain ⟨A9, c9, rfl, hc9, _, _⟩ := hown9.row GId.len
          rw [List.length_append, List.length_singleton] at hown9 hc9 ⊢
          have HC9 := Lib.hid hc9
          refine hK _ _ hS9 ?_
          clear hK K hc9
          try simp only [Act.put, List.setIfInBounds_toArray, List.set_cons_zero, List.set_cons_succ]
          iterate 1
            (first
              | (refine wpGT_float (v := ?_) (by simp only [List.getElem?_toArray, List.getElem?_cons_succ, List.getElem?_cons_zero]; rfl) (by rfl) ?_ ?_
                 rotate_left
                 · (intro W hW; skip; go_simp; try with_reducible rfl)
                 simp only [Act.put, List.setIfInBounds_toArray, List.set_cons_zero, List.set_cons_succ])
              | (refine wpGT_skip (by simp only [List.getElem?_toArray, List.getElem?_cons_succ, List.getElem?_cons_zero]; rfl) (by rfl) ?_
                 simp only [Act.put, List.setIfInBounds_toArray, List.set_cons_zero, List.set_cons_succ]))
          refine wpGT_nil ?_
          clear hS9 hrun9
          have HB8 : Hid (Below wd.heap.size wd w8) := Lib.hid hb9
          have HO8 := Lib.hid hown9
          have HX8 := Lib.hid (HX.out.keep fun g hg => HB8.out.block g (HX.out.lt g hg).2)
          have HN8 := Lib.hid (HNM.out.next HB8.out)
          have HZ8 := Lib.hid (HZ.out.next HB8.out)
          have HBW8 := Lib.hid (beln HB.out HB8.out)
          clear hb9 hown9 hS
          obtain ⟨d0, d1, d2, d3, d4, d5, d6, d7, d8, d9, d10⟩ := HN8.out.cells
          have df := HN8.out.frz
          have dl := HN8.out.lt
          simp only at d0 d1 d2 d3 d4 d5 d6 d7 d8 d9 d10
          have HN9 := Lib.hid (HN8.out.setPath A9 (ys.length + 1) c9)
          have HX9 := Lib.hid (HX8.out.setOther (Nat.lt_succ_self M) 3 (.slice A9 (ys.length + 1) c9))
          have HO9 := Lib.hid (HO8.out.setOther (Nat.lt_succ_self M) 3 (.slice A9 (ys.length + 1) c9))
          have HZ9 : Hid (NB (w8.setCell ⟨M, 3, none⟩ (.slice A9 (ys.length + 1) c9)) (w.heap.size + 1) ⟨0, 0, 0⟩ none 0 0 ⟨0, 0, 0, 0, 0, 0, false⟩) := Lib.hid ((Below.heap_setCell w8 ⟨M, 3, none⟩ _ (w.heap.size + 1) (by have := HM.out; show w.heap.size + 1 ≠ M; omega)).trans HZ8.out)
          have HB9 : Hid (Below w.heap.size w (w8.setCell ⟨M, 3, none⟩ (.slice A9 (ys.length + 1) c9))) := Lib.hid (HBW8.out.setCell (p := ⟨M, 3, none⟩) (by have := HM.out; show w.heap.size ≤ M; omega) _)
          clear HN8 HX8 HO8 HZ8 HBW8 HB8
          go_wp2
          go_roundw
          case rel => exact ⟨k + 1, ys ++ [⟨zc, zo, zp⟩], A9, c9, by go_num, by omega, HY7, by simpa using HC9, by simpa using HN9, by simpa using HO9, HX9, HZ9, HB9⟩
          case measure => simp [intOf]; omega
        · refine wpOp_call (by simp only [List.getElem?_toArray, List.getElem?_cons_succ, List.getElem?_cons_zero]; rfl) (by rfl) fun K hK => ?_
          go_simp
          have hbl : Below wd.heap.size wd (wd.alloc (.cells #[.int .i64 zc, .int .i64 zo, .int .i64 zp] 24)).drew := (belt (Below.refl _ wd) _).drew
          refine hK _ _ hbl ?_
          clear hK K
          try simp only [Act.put, List.setIfInBounds_toArray, List.set_cons_zero, List.set_cons_succ]
          refine wpGT_call (by simp only [List.getElem?_toArray, List.getElem?_cons_succ, List.getElem?_cons_zero]; rfl) (by rfl) fun K hK => ?_
          go_simp
          go_fit (HCP.out _ hbl)
          rintro e wn ⟨v, rfl, ho, hbn⟩
          obtain ⟨A5, c5', rfl, _, _, _⟩ := ho.row GId.len
          have hS5 : Below wd.heap.size wd wn := beln hbl hbn
          go_simp
          refine hK _ _ hS5 ?_
          clear hK K
          try simp only [Act.put, List.setIfInBounds_toArray, List.set_cons_zero, List.set_cons_succ]
          have hlr := ((lit_id wd ⟨zc, zo, zp⟩).keep (w' := wn) (fun g hg => hbn.block g (by simpa using hg)))
          obtain ⟨v9, w7, hrun9, hown9, hg9, _⟩ := OwnG.app elt_id GId.len GId.one ho 1 hlr (by have := hbn.size; exact this) (by unfold maxLen; simp; omega) (by simp; omega)
          have hlowd : ∀ g, Value.ownBlock (.slice A5 _ c5') = some g → (wd.alloc (.cells #[.int .i64 zc, .int .i64 zo, .int .i64 zp] 24)).drew.heap.size ≤ g := fun g e => (ho.lt g e).1
          have hb9 : Below wd.heap.size wd w7 := beln hbl (hbn.grown hg9 hbn.size hlowd)
          have hown9 := OwnG.low (b' := M + 1) hown9 (by have := HNM.out.lt; simp; omega)
          have hS9 : Below wd.heap.size wd w7 := hb9
          refine wpGT_call (by simp only [List.getElem?_toArray, List.getElem?_cons_succ, List.getElem?_cons_zero]; rfl) (by rfl) fun K hK => ?_
          refine oper_app10 (R := fun v W => v = v9 ∧ W = w7) ⟨v9, w7, hrun9, rfl, rfl⟩ rfl rfl rfl rfl ?_
          rintro v8 w8 ⟨rfl, rfl⟩
          obtain ⟨A9, c9, rfl, hc9, _, _⟩ := hown9.row GId.len
          rw [List.length_append, List.length_singleton] at hown9 hc9 ⊢
          have HC9 := Lib.hid hc9
          refine hK _ _ hS9 ?_
          clear hK K hc9
          try simp only [Act.put, List.setIfInBounds_toArray, List.set_cons_zero, List.set_cons_succ]
          iterate 1
            (first
              | (refine wpGT_float (v := ?_) (by simp only [List.getElem?_toArray, List.getElem?_cons_succ, List.getElem?_cons_zero]; rfl) (by rfl) ?_ ?_
                 rotate_left
                 · (intro W hW; skip; go_simp; try with_reducible rfl)
                 simp only [Act.put, List.setIfInBounds_toArray, List.set_cons_zero, List.set_cons_succ])
              | (refine wpGT_skip (by simp only [List.getElem?_toArray, List.getElem?_cons_succ, List.getElem?_cons_zero]; rfl) (by rfl) ?_
                 simp only [Act.put, List.setIfInBounds_toArray, List.set_cons_zero, List.set_cons_succ]))
          refine wpGT_nil ?_
          clear hS9 hrun9
          have HB8 : Hid (Below wd.heap.size wd w8) := Lib.hid hb9
          have HO8 := Lib.hid hown9
          have HX8 := Lib.hid (HX.out.keep fun g hg => HB8.out.block g (HX.out.lt g hg).2)
          have HN8 := Lib.hid (HNM.out.next HB8.out)
          have HZ8 := Lib.hid (HZ.out.next HB8.out)
          have HBW8 := Lib.hid (beln HB.out HB8.out)
          clear hb9 hown9 hS
          obtain ⟨d0, d1, d2, d3, d4, d5, d6, d7, d8, d9, d10⟩ := HN8.out.cells
          have df := HN8.out.frz
          have dl := HN8.out.lt
          simp only at d0 d1 d2 d3 d4 d5 d6 d7 d8 d9 d10
          have HN9 := Lib.hid (HN8.out.setPath A9 (ys.length + 1) c9)
          have HX9 := Lib.hid (HX8.out.setOther (Nat.lt_succ_self M) 3 (.slice A9 (ys.length + 1) c9))
          have HO9 := Lib.hid (HO8.out.setOther (Nat.lt_succ_self M) 3 (.slice A9 (ys.length + 1) c9))
          have HZ9 : Hid (NB (w8.setCell ⟨M, 3, none⟩ (.slice A9 (ys.length + 1) c9)) (w.heap.size + 1) ⟨0, 0, 0⟩ none 0 0 ⟨0, 0, 0, 0, 0, 0, false⟩) := Lib.hid ((Below.heap_setCell w8 ⟨M, 3, none⟩ _ (w.heap.size + 1) (by have := HM.out; show w.heap.size + 1 ≠ M; omega)).trans HZ8.out)
          have HB9 : Hid (Below w.heap.size w (w8.setCell ⟨M, 3, none⟩ (.slice A9 (ys.length + 1) c9))) := Lib.hid (HBW8.out.setCell (p := ⟨M, 3, none⟩) (by have := HM.out; show w.heap.size ≤ M; omega) _)
          clear HN8 HX8 HO8 HZ8 HBW8 HB8
          go_wp2
          go_roundw
          case rel => exact ⟨k + 1, ys ++ [⟨zc, zo, zp⟩], A9, c9, by go_num, by omega, HY7, by simpa using HC9, by simpa using HN9, by simpa using HO9, HX9, HZ9, HB9⟩
          case measure => simp [intOf]; omega
end Go.Proofs.Ytndppbfdcceflaa
