/-
  Entries appended one by one; the reference's copy of a list of entries.
  Conditions: none.
-/
import Derived.Test.YtndppbfdcceflaaGreatDoorZab
namespace Go.Proofs.YtndppbfdcceflaaGreatDoor
open Go.RowKit

theorem lit_ent (w : World) (y : GV) (hy : PW w w.heap.size y) : ERow (w.alloc (.cells #[.int .i64 y.e.core, .int .i64 y.e.slot, .int .i64 y.e.node.id.core, .int .i64 y.e.node.id.op, .int .i64 y.e.node.id.part, .slice y.A y.e.node.path.length y.c, .int .i64 y.e.node.cap.kind, .int .i64 y.e.node.cap.base, .int .i64 y.e.node.cap.bits, .int .i64 y.e.node.cap.rights, .int .i64 y.e.node.cap.width, .int .i64 y.e.node.cap.level, .bool y.e.node.cap.device] 32)) (w.alloc (.cells #[.int .i64 y.e.core, .int .i64 y.e.slot, .int .i64 y.e.node.id.core, .int .i64 y.e.node.id.op, .int .i64 y.e.node.id.part, .slice y.A y.e.node.path.length y.c, .int .i64 y.e.node.cap.kind, .int .i64 y.e.node.cap.base, .int .i64 y.e.node.cap.bits, .int .i64 y.e.node.cap.rights, .int .i64 y.e.node.cap.width, .int .i64 y.e.node.cap.level, .bool y.e.node.cap.device] 32)).heap.size (some ⟨w.heap.size, 0, none⟩) [y] := by
  refine ⟨?_, fun x hx => ?_⟩
  · have h := (OwnG.lit GV.len w w.heap.size (T := 32) [y] #[.int .i64 y.e.core, .int .i64 y.e.slot, .int .i64 y.e.node.id.core, .int .i64 y.e.node.id.op, .int .i64 y.e.node.id.part, .slice y.A y.e.node.path.length y.c, .int .i64 y.e.node.cap.kind, .int .i64 y.e.node.cap.base, .int .i64 y.e.node.cap.bits, .int .i64 y.e.node.cap.rights, .int .i64 y.e.node.cap.width, .int .i64 y.e.node.cap.level, .bool y.e.node.cap.device] rfl (Nat.le_refl _) (by unfold maxLen; simp)).row GV.len
    obtain ⟨A, c, e, _, _, hr⟩ := h
    cases e
    exact hr
  · rw [List.mem_singleton] at hx
    subst hx
    exact hy.next (belt (Below.refl _ w) _)
theorem EOwn.alloc {w : World} {base : Nat} {v : Value} {xs : List GV} (h : EOwn w base v xs) (o : Obj) : EOwn (w.alloc o) base v xs := h.next (belt (Below.refl _ w) o)
/-- One entry more on a row of the call's own. -/
theorem EOwn.snoc {w w0 : World} {v : Value} {xs : List GV} (h : EOwn w w0.heap.size v xs) (hb : Below w0.heap.size w0 w) (y : GV) (hy : PW w w.heap.size y) (ha : Apart v y) (hl : xs.length ≤ 900000) :
    ∃ v' w', (Builtin.append_ #[22, 22] 22 #[v, .slice (some ⟨w.heap.size, 0, none⟩) 1 1]).run Tryz.prog (w.alloc (.cells #[.int .i64 y.e.core, .int .i64 y.e.slot, .int .i64 y.e.node.id.core, .int .i64 y.e.node.id.op, .int .i64 y.e.node.id.part, .slice y.A y.e.node.path.length y.c, .int .i64 y.e.node.cap.kind, .int .i64 y.e.node.cap.base, .int .i64 y.e.node.cap.bits, .int .i64 y.e.node.cap.rights, .int .i64 y.e.node.cap.width, .int .i64 y.e.node.cap.level, .bool y.e.node.cap.device] 32)) = .ok v' w' ∧ EOwn w' w0.heap.size v' (xs ++ [y]) ∧ Below w0.heap.size w0 w' := by
  have hs := hb.size
  obtain ⟨v', w', hrun, hown, hg, _⟩ := EOwn.app (h.alloc (.cells #[.int .i64 y.e.core, .int .i64 y.e.slot, .int .i64 y.e.node.id.core, .int .i64 y.e.node.id.op, .int .i64 y.e.node.id.part, .slice y.A y.e.node.path.length y.c, .int .i64 y.e.node.cap.kind, .int .i64 y.e.node.cap.base, .int .i64 y.e.node.cap.bits, .int .i64 y.e.node.cap.rights, .int .i64 y.e.node.cap.width, .int .i64 y.e.node.cap.level, .bool y.e.node.cap.device] 32)) 1 (lit_ent w y hy) (fun z hz => by rw [List.mem_singleton] at hz; subst hz; exact ha) (by simp; omega) (by simp; omega)
  exact ⟨v', w', hrun, hown, (hb.alloc hs _).grown hg (by simp; omega) (fun g e => (h.own.lt g e).1)⟩
/-- A path that is newer than what the call owns is apart from it. -/
theorem Apart.fresh {W W' : World} {base : Nat} {v : Value} {xs : List GV} (h : OwnG GV.cells 32 13 W base v xs) {y : GV} (hp : OwnG GId.cells 25 3 W' W.heap.size (.slice y.A y.e.node.path.length y.c) y.e.node.path) : Apart v y := fun _ g b o hg hA e => by
  rcases hp.2 with ⟨hv, _⟩ | ⟨g', c', cur, hv, hbs, _⟩
  · rw [hA] at hv; cases hv
  · rw [hA] at hv
    cases hv
    have := (h.lt g hg).2
    omega
theorem PW.own {W : World} {base : Nat} {y : GV} (hp : OwnG GId.cells 25 3 W base (.slice y.A y.e.node.path.length y.c) y.e.node.path) (hc : y.e.node.path.length ≤ y.c) : PW W W.heap.size y := ⟨(hp.rowAt GId.len).2, hc⟩
/-- How a call ends that returns entries in memory of its own. -/
def EsEnd (es : List GE) (w : World) (e : Ending) (w' : World) : Prop := ∃ v ys, e = .returned v ∧ EOwn w' w.heap.size v ys ∧ ys.map GV.e = es ∧ Below w.heap.size w w'
theorem take_map {α β : Type} (f : α → β) (l : List α) {k : Nat} (hk : k < l.length) : (l.map f).take (k + 1) = (l.map f).take k ++ [f l[k]] := by
  rw [List.take_succ_eq_append_getElem (by simpa using hk)]; simp
set_option maxRecDepth 20000 in
set_option maxHeartbeats 1000000 in
theorem rCpE_any (xs : List GV) (A : Option Addr) (c : Nat) (w : World) (h1 : ERow w w.heap.size A xs) (hl : xs.length ≤ 900000) (hp : ∀ x ∈ xs, x.e.node.path.length ≤ 17179869184) :
    Calls Tryz.prog 17 #[.slice A xs.length c] w (EsEnd (xs.map GV.e) w) := by
  have H1 := Lib.hid h1
  have HC := Lib.hid fun k (hk : k < xs.length) W (hW : Below w.heap.size w W) => rCpnO_any xs[k].e.node xs[k].A xs[k].c W ((h1.pth _ (List.getElem_mem hk)).1.next hW) (hp _ (List.getElem_mem hk))
  have HTK := Lib.hid fun k (hk : k < xs.length) => take_map GV.e xs hk
  have HEND : Hid (∀ v ys W, EOwn W w.heap.size v ys → ys.map GV.e = xs.map GV.e → Below w.heap.size w W → EsEnd (xs.map GV.e) w (.returned v) W) := Lib.hid fun v ys W h1 h2 h3 => ⟨v, ys, rfl, h1, h2, h3⟩
  generalize EsEnd (xs.map GV.e) w = EE at *
  unfold CpyOwn GN.val at HC
  clear h1 hp
  go_enter Tryz.func17, Tryz.ntmps17
  go_wp2
  go_loopw [3, 4] (fun v3 v4 wr => ∃ (k : Nat) (ys : List GV), v4 = .int .i64 k ∧ k ≤ xs.length ∧ Hid (ys.map GV.e = (xs.map GV.e).take k) ∧ Hid (EOwn wr w.heap.size v3 ys) ∧ Hid (Below w.heap.size w wr)) (fun _ v4 _ => xs.length - (intOf v4).toNat)
  case atStart => exact ⟨0, [], rfl, Nat.zero_le _, Lib.hid rfl, Lib.hid (EOwn.nil _ _), Lib.hid (Below.refl _ _)⟩
  case round =>
    obtain ⟨k, ys, rfl, hk, HT, HO, HB⟩ := hrel
    obtain ⟨An, cn, rfl, hcn, hmn, hrn⟩ := HO.out.erow
    have HYL : Hid (ys.length = k) := Lib.hid (by have := congrArg List.length HT.out; simp at this; omega)
    clear hcn hmn hrn
    rcases Nat.lt_or_ge k xs.length with hlt | hge
    · obtain ⟨b1, o1, rfl, hb1, ⟨x0, x1, x2, x3, x4, x5, x6, x7, x8, x9, x10, x11, x12⟩⟩ := H1.out.row.gev hlt
      have HTN := Lib.hid (HTK.out k hlt)
      have HCK := Lib.hid (HC.out k hlt)
      generalize xs[k] = x at *
      obtain ⟨⟨xc, xs', ⟨⟨i0, i1, i2⟩, xp, ⟨a0, a1, a2, a3, a4, a5, a6⟩⟩⟩, xA, xcp⟩ := x
      simp only at x0 x1 x2 x3 x4 x5 x6 x7 x8 x9 x10 x11 x12 HCK
      go_upto_region 5 with fail
      have hS : Below w.heap.size w wr.drew := HB.out.drew
      have hk0 : 0 ≤ (k : Int) := by omega
      have hk1 : (k : Int) < (xs.length : Int) := by omega
      have hk2 : (k : Int).toNat = k := by omega
      refine wp_region_growS (S := fun W => Below w.heap.size w W) [(0, true), (1, true), (2, true), (3, true), (4, true), (5, true), (6, true), (7, true), (8, true), (9, true), (10, true), (11, true), (12, true), (13, true), (14, true), (15, true), (16, false), (17, true), (18, false), (19, false), (20, true)] (by kernel_rfl) (by kernel_rfl) (by kernel_rfl) (by kernel_rfl) (by intro c a d v w h; cases d <;> exact h) hS ?_
      iterate 16
        (first
          | (refine wpGrowS_float (v := ?_) (by simp only [List.getElem?_toArray, List.getElem?_cons_succ, List.getElem?_cons_zero]; rfl) (by rfl) ?_ ?_
             rotate_left
             · (intro W hW; have t0 := (hW.cell (p := ⟨b1, o1 + k * 13, none⟩) hb1).trans x0; have t1 := (hW.cell (p := ⟨b1, o1 + k * 13 + 1, none⟩) hb1).trans x1; have t2 := (hW.cell (p := ⟨b1, o1 + k * 13 + 2, none⟩) hb1).trans x2; have t3 := (hW.cell (p := ⟨b1, o1 + k * 13 + 3, none⟩) hb1).trans x3; have t4 := (hW.cell (p := ⟨b1, o1 + k * 13 + 4, none⟩) hb1).trans x4; have t5 := (hW.cell (p := ⟨b1, o1 + k * 13 + 5, none⟩) hb1).trans x5; have t6 := (hW.cell (p := ⟨b1, o1 + k * 13 + 6, none⟩) hb1).trans x6; have t7 := (hW.cell (p := ⟨b1, o1 + k * 13 + 7, none⟩) hb1).trans x7; have t8 := (hW.cell (p := ⟨b1, o1 + k * 13 + 8, none⟩) hb1).trans x8; have t9 := (hW.cell (p := ⟨b1, o1 + k * 13 + 9, none⟩) hb1).trans x9; have t10 := (hW.cell (p := ⟨b1, o1 + k * 13 + 10, none⟩) hb1).trans x10; have t11 := (hW.cell (p := ⟨b1, o1 + k * 13 + 11, none⟩) hb1).trans x11; have t12 := (hW.cell (p := ⟨b1, o1 + k * 13 + 12, none⟩) hb1).trans x12; (try simp only at *); go_simp; try with_reducible rfl)
             simp only [Act.put, List.setIfInBounds_toArray, List.set_cons_zero, List.set_cons_succ])
          | (refine wpGrowS_skip (by simp only [List.getElem?_toArray, List.getElem?_cons_succ, List.getElem?_cons_zero]; rfl) (by rfl) ?_
             simp only [Act.put, List.setIfInBounds_toArray, List.set_cons_zero, List.set_cons_succ]))
      refine wpGrowS_call (by simp only [List.getElem?_toArray, List.getElem?_cons_succ, List.getElem?_cons_zero]; rfl) (by rfl) fun K hK => ?_
      go_simp
      go_fit (HCK.out _ hS)
      rintro e w2 ⟨A2, c2, rfl, hc2, ho2, hb2⟩
      have hS2 : Below w.heap.size w w2 := beln hS hb2
      have HO2 := Lib.hid ((HO.out.next (Below.refl _ wr).drew).next hb2)
      have hap : Apart (.slice An ys.length cn) ⟨⟨xc, xs', ⟨⟨i0, i1, i2⟩, xp, ⟨a0, a1, a2, a3, a4, a5, a6⟩⟩⟩, A2, c2⟩ := Apart.fresh (HO.out.next (Below.refl _ wr).drew).own ho2
      have hpw : PW w2 w2.heap.size ⟨⟨xc, xs', ⟨⟨i0, i1, i2⟩, xp, ⟨a0, a1, a2, a3, a4, a5, a6⟩⟩⟩, A2, c2⟩ := PW.own ho2 hc2
      obtain ⟨v9, w9, hrun9, hown9, hb9⟩ := EOwn.snoc HO2.out hS2 _ hpw hap (by have := HYL.out; omega)
      simp only at hrun9
      have HO9 := Lib.hid hown9
      have HT9 : Hid ((ys ++ [(⟨⟨xc, xs', ⟨⟨i0, i1, i2⟩, xp, ⟨a0, a1, a2, a3, a4, a5, a6⟩⟩⟩, A2, c2⟩ : GV)]).map GV.e = (xs.map GV.e).take (k + 1)) := Lib.hid (by rw [HTN.out, List.map_append, HT.out]; rfl)
      clear hown9 hap hpw ho2 hb2 hc2 HTN
      go_simp
      refine hK _ _ hS2 ?_
      clear hK K
      try simp only [Act.put, List.setIfInBounds_toArray, List.set_cons_zero, List.set_cons_succ]
      iterate 1
        (first
          | (refine wpGrowS_float (v := ?_) (by simp only [List.getElem?_toArray, List.getElem?_cons_succ, List.getElem?_cons_zero]; rfl) (by rfl) ?_ ?_
             rotate_left
             · (intro W hW; have t0 := (hW.cell (p := ⟨b1, o1 + k * 13, none⟩) hb1).trans x0; have t1 := (hW.cell (p := ⟨b1, o1 + k * 13 + 1, none⟩) hb1).trans x1; have t2 := (hW.cell (p := ⟨b1, o1 + k * 13 + 2, none⟩) hb1).trans x2; have t3 := (hW.cell (p := ⟨b1, o1 + k * 13 + 3, none⟩) hb1).trans x3; have t4 := (hW.cell (p := ⟨b1, o1 + k * 13 + 4, none⟩) hb1).trans x4; have t5 := (hW.cell (p := ⟨b1, o1 + k * 13 + 5, none⟩) hb1).trans x5; have t6 := (hW.cell (p := ⟨b1, o1 + k * 13 + 6, none⟩) hb1).trans x6; have t7 := (hW.cell (p := ⟨b1, o1 + k * 13 + 7, none⟩) hb1).trans x7; have t8 := (hW.cell (p := ⟨b1, o1 + k * 13 + 8, none⟩) hb1).trans x8; have t9 := (hW.cell (p := ⟨b1, o1 + k * 13 + 9, none⟩) hb1).trans x9; have t10 := (hW.cell (p := ⟨b1, o1 + k * 13 + 10, none⟩) hb1).trans x10; have t11 := (hW.cell (p := ⟨b1, o1 + k * 13 + 11, none⟩) hb1).trans x11; have t12 := (hW.cell (p := ⟨b1, o1 + k * 13 + 12, none⟩) hb1).trans x12; (try simp only at *); go_simp; try with_reducible rfl)
             simp only [Act.put, List.setIfInBounds_toArray, List.set_cons_zero, List.set_cons_succ])
          | (refine wpGrowS_skip (by simp only [List.getElem?_toArray, List.getElem?_cons_succ, List.getElem?_cons_zero]; rfl) (by rfl) ?_
             simp only [Act.put, List.setIfInBounds_toArray, List.set_cons_zero, List.set_cons_succ]))
      refine wpGrowS_call (by simp only [List.getElem?_toArray, List.getElem?_cons_succ, List.getElem?_cons_zero]; rfl) (by rfl) fun K hK => ?_
      go_simp
      refine hK _ _ (belt hS2 _) ?_
      clear hK K
      try simp only [Act.put, List.setIfInBounds_toArray, List.set_cons_zero, List.set_cons_succ]
      refine wpGrowS_call (by simp only [List.getElem?_toArray, List.getElem?_cons_succ, List.getElem?_cons_zero]; rfl) (by rfl) fun K hK => ?_
      refine oper_app10 (R := fun v W => v = v9 ∧ W = w9) ⟨v9, w9, hrun9, rfl, rfl⟩ rfl rfl rfl rfl ?_
      rintro v8 w8 ⟨rfl, rfl⟩
      refine hK _ _ hb9 ?_
      clear hK K
      try simp only [Act.put, List.setIfInBounds_toArray, List.set_cons_zero, List.set_cons_succ]
      iterate 1
        (first
          | (refine wpGrowS_float (v := ?_) (by simp only [List.getElem?_toArray, List.getElem?_cons_succ, List.getElem?_cons_zero]; rfl) (by rfl) ?_ ?_
             rotate_left
             · (intro W hW; have t0 := (hW.cell (p := ⟨b1, o1 + k * 13, none⟩) hb1).trans x0; have t1 := (hW.cell (p := ⟨b1, o1 + k * 13 + 1, none⟩) hb1).trans x1; have t2 := (hW.cell (p := ⟨b1, o1 + k * 13 + 2, none⟩) hb1).trans x2; have t3 := (hW.cell (p := ⟨b1, o1 + k * 13 + 3, none⟩) hb1).trans x3; have t4 := (hW.cell (p := ⟨b1, o1 + k * 13 + 4, none⟩) hb1).trans x4; have t5 := (hW.cell (p := ⟨b1, o1 + k * 13 + 5, none⟩) hb1).trans x5; have t6 := (hW.cell (p := ⟨b1, o1 + k * 13 + 6, none⟩) hb1).trans x6; have t7 := (hW.cell (p := ⟨b1, o1 + k * 13 + 7, none⟩) hb1).trans x7; have t8 := (hW.cell (p := ⟨b1, o1 + k * 13 + 8, none⟩) hb1).trans x8; have t9 := (hW.cell (p := ⟨b1, o1 + k * 13 + 9, none⟩) hb1).trans x9; have t10 := (hW.cell (p := ⟨b1, o1 + k * 13 + 10, none⟩) hb1).trans x10; have t11 := (hW.cell (p := ⟨b1, o1 + k * 13 + 11, none⟩) hb1).trans x11; have t12 := (hW.cell (p := ⟨b1, o1 + k * 13 + 12, none⟩) hb1).trans x12; (try simp only at *); go_simp; try with_reducible rfl)
             simp only [Act.put, List.setIfInBounds_toArray, List.set_cons_zero, List.set_cons_succ])
          | (refine wpGrowS_skip (by simp only [List.getElem?_toArray, List.getElem?_cons_succ, List.getElem?_cons_zero]; rfl) (by rfl) ?_
             simp only [Act.put, List.setIfInBounds_toArray, List.set_cons_zero, List.set_cons_succ]))
      refine wpGrowS_nil ?_
      have HB9 := Lib.hid hb9
      clear hS hS2 hb9 hrun9 x0 x1 x2 x3 x4 x5 x6 x7 x8 x9 x10 x11 x12 HCK hk0 hk1 hk2
      go_wp2
      go_roundw
      case rel => exact ⟨k + 1, _, by go_num, by omega, HT9, HO9, HB9⟩
      case measure => simp [intOf]; omega
    · have HF : Hid (ys.map GV.e = xs.map GV.e) := Lib.hid (by rw [HT.out, List.take_of_length_le (by simpa using hge)])
      go_wp2
      exact HEND.out _ _ _ HO.out HF.out HB.out
end Go.Proofs.YtndppbfdcceflaaGreatDoor
