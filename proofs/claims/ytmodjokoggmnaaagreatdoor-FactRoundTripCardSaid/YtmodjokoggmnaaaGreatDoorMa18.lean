/-
  slices.CompactFunc at facts, by the closure that merged hands to it: of equal neighbours the first is kept.
  Conditions: the slice is one of the call's own, of at most 1000000 facts; the facts' arguments lie in memory that the call does not turn.
  DERIVED: THE SHELF's CONTRACTS AT THIS DUMP, IN PLAIN WORDS (tools/lay-plain.mjs out of 'TryzSortLay.lean', which tools/lay-shelf.mjs wrote): THE SAME DECLARATIONS UNDER THE SAME NAMES: 'import', 'namespace', 'open', 'def', 'theorem' AND NOTHING ELSE: no command of the shelf's: FOR A HAND-IN. Each laying: the table of numbers ('.._ren') and one theorem, a field a fact of the dump's own or the kernel's comparison; each contract: ONE APPLICATION.
  slices.SortFunc at facts, by facts.Compare: a permutation, ascending.
  Conditions: the slice is one of the call's own; the facts' arguments lie in memory that the call does not turn.
-/
import Derived.Test.YtmodjokoggmnaaaGreatDoorMa17
import Derived.Deep.DeepCutAuto
import Derived.Shelf.SlGeneric
import Derived.Shelf.SlSortCmp.WholeK
import Derived.Ground.SlsfProg
import Derived.Test.YtmodjokoggmnaaaGreatDoorProg
namespace Go.Proofs.YtmodjokoggmnaaaGreatDoor

open Go.RowKit Go.Shelf

/-- The cells of element i of a row of facts of the call's own. -/
theorem OwnG.elem {w0 w : World} {base g cap n : Nat} {es : List (Elem w0)} (h : OwnG Elem.enc 37 2 w base (.slice (some ⟨g, 0, none⟩) n cap) es) {i : Nat} (hi : i < es.length) :
    w.cell? ⟨g, i * 2, none⟩ = some (.string ⟨es[i].sf.rel.toArray⟩) ∧ w.cell? ⟨g, i * 2 + 1, none⟩ = some (.slice es[i].sf.A es[i].sf.n es[i].sf.c) := by
  obtain ⟨A, c, e, _, _, hr⟩ := h.row Elem.len
  cases e
  obtain ⟨b, off, e, _, hc⟩ := hr (by omega)
  cases e
  have h0 := hc i hi 0 _ rfl
  have h1 := hc i hi 1 _ rfl
  simp only [Nat.zero_add, Nat.add_zero] at h0 h1
  exact ⟨h0, h1⟩
theorem OwnG.gr {α : Type} {enc : α → List Value} {T : TypeId} {k : Nat} {w w' : World} {base : Nat} {v : Value} {l : List α} (h : OwnG enc T k w base v l) (hb : Gr w w') : OwnG enc T k w' base v l := h.next hb.bel
theorem OwnG.frz {w0 w : World} {base g cap n : Nat} {es : List (Elem w0)} (h : OwnG Elem.enc 37 2 w base (.slice (some ⟨g, 0, none⟩) n cap) es) (j : Nat) : w.frozen? ⟨g, j, none⟩ = false := by
  rcases h.2 with ⟨hv, _⟩ | ⟨g', cap', cur, hv, _, hh, _⟩
  · cases hv
  · cases hv; exact Lib.frozen_of_heap hh j
theorem compE_step2 {w0 : World} {es : List (Elem w0)} {k m : Nat} (hkm : m = k - 1) (h0 : 1 ≤ k) (h : k < es.length) (hm : m < es.length) :
    compE (es.take (k + 1)) = if eqE es[k] es[m] then compE (es.take k) else compE (es.take k) ++ [es[k]] := by
  subst hkm
  exact compE_step h0 h
def CompactEnd {w0 : World} (es : List (Elem w0)) (w : World) (g cap : Nat) (e : Ending) (w' : World) : Prop :=
  e = .returned (.slice (some ⟨g, 0, none⟩) (compE es).length cap) ∧ OwnG Elem.enc 37 2 w' w0.heap.size (.slice (some ⟨g, 0, none⟩) (compE es).length cap) (compE es) ∧ w.grownBy w' (some g)
/-- Where the second loop stands: i elements are kept of the first m + 1 + p. -/
structure CompI {w0 : World} (es cur : List (Elem w0)) (i j : Nat) : Prop where
  len : cur.length = es.length
  kept : cur.take i = compE (es.take j)
  cnt : (compE (es.take j)).length = i
  lt : i < j
  rest : ∀ t, j ≤ t + 1 → cur[t]? = es[t]?
theorem CompI.at {w0 : World} {es cur : List (Elem w0)} {i j : Nat} (h : CompI es cur i j) {t : Nat} (ht : j ≤ t + 1) (h1 : t < es.length) : cur[t]'(by rw [h.len]; exact h1) = es[t] := by
  have := h.rest t ht
  rw [List.getElem?_eq_getElem (by rw [h.len]; exact h1), List.getElem?_eq_getElem h1] at this
  exact Option.some.inj this
theorem CompI.skip2 {w0 : World} {es cur : List (Elem w0)} {i j m : Nat} (h : CompI es cur i j) (hm : m = j - 1) (h0 : 1 ≤ j) (hj : j < es.length) (hml : m < es.length) (he : eqE es[j] es[m] = true) : CompI es cur i (j + 1) := by
  subst hm
  have hs := compE_step h0 hj
  rw [if_pos he] at hs
  exact ⟨h.len, by rw [hs]; exact h.kept, by rw [hs]; exact h.cnt, by have := h.lt; omega, fun t ht => h.rest t (by omega)⟩
theorem CompI.put2 {w0 : World} {es cur : List (Elem w0)} {i j m : Nat} (h : CompI es cur i j) (hm : m = j - 1) (h0 : 1 ≤ j) (hj : j < es.length) (hml : m < es.length) (he : eqE es[j] es[m] = false) : CompI es (cur.set i es[j]) (i + 1) (j + 1) := by
  subst hm
  have hs := compE_step h0 hj
  rw [if_neg (by rw [he]; simp)] at hs
  have hlt := h.lt
  have hl := h.len
  refine ⟨by rw [List.length_set]; exact hl, ?_, by rw [hs]; simp [h.cnt], by omega, fun t ht => ?_⟩
  · rw [hs, ← h.kept, List.take_succ_eq_append_getElem (by rw [List.length_set]; omega), List.getElem_set_self]
    rw [List.take_set_of_le (by omega)]
  · rw [List.getElem?_set_ne (by omega)]
    exact h.rest t (by omega)
set_option maxRecDepth 50000 in
set_option maxHeartbeats 1000000 in
theorem compactF_any {w0 : World} (es : List (Elem w0)) (bx g cap : Nat) (w : World) (hb : Below w0.heap.size w0 w) (hx : w.cell? ⟨bx, 0, none⟩ = some (.func (.func 94) #[] #[])) (hgx : bx ≠ g) (h : OwnG Elem.enc 37 2 w w0.heap.size (.slice (some ⟨g, 0, none⟩) es.length cap) es) (hn : es.length ≤ 1000000) (h2 : 2 ≤ es.length) :
    Calls Tryz.prog 123 #[.slice (some ⟨g, 0, none⟩) es.length cap, .func (.func 124) #[] #[.pointer (some ⟨bx, 0, none⟩)]] w (CompactEnd es w g cap) := by
  have hg := h.lt g rfl
  have hbw := World.block_lt_of_cell? w _ hx
  simp only at hbw
  obtain ⟨A7, c7, e7, hcap, hmax, _⟩ := h.row Elem.len
  cases e7
  unfold maxLen at hmax
  have HO := Lib.hid h
  have HB := Lib.hid hb
  have HX := Lib.hid hx
  clear h hb hx
  go_enter Tryz.func123, Tryz.ntmps123
  go_wp2
  go_loopw [5] (fun v5 wr => ∃ k : Nat, v5 = .int .i64 k ∧ 1 ≤ k ∧ k ≤ es.length ∧ Hid (compE (es.take k) = es.take k) ∧ Hid (Gr w wr)) (fun v5 _ => es.length - (intOf v5).toNat)
  case atStart => exact ⟨1, rfl, Nat.le_refl _, by omega, Lib.hid (compE_one (by omega)), Lib.hid (Gr.refl _)⟩
  case round =>
    obtain ⟨k, rfl, h1k, hkn, HT, HG⟩ := hrel
    rcases Nat.lt_or_ge k es.length with hlt | hge
    · obtain ⟨m, hkm⟩ : ∃ m : Nat, m = k - 1 := ⟨_, rfl⟩
      have hml : m < es.length := by omega
      have HOr := Lib.hid (HO.out.gr HG.out)
      obtain ⟨x0, x1⟩ := HOr.out.elem hlt
      obtain ⟨y0, y1⟩ := HOr.out.elem hml
      have HST := Lib.hid (compE_step2 hkm h1k hlt hml)
      have i1 : (0 : Int) ≤ (k : Int) := by omega
      have i2 : (k : Int) < (es.length : Int) := by omega
      have i3 : (0 : Int) ≤ (m : Int) := by omega
      have i4 : (m : Int) < (es.length : Int) := by omega
      have i5 : IntKind.i64.wrap ((k : Int) - 1) = (m : Int) := by rw [IntWalk.i64_in _ (by omega)]; omega
      have HKM := Lib.hid hkm
      clear hkm
      have hxr : wr.cell? ⟨bx, 0, none⟩ = some (.func (.func 94) #[] #[]) := (HG.out.bel.cell (p := ⟨bx, 0, none⟩) hbw).trans HX.out
      have HC := Lib.hid fun W (hW : Below wr.heap.size wr W) => mergedC_gr es[k] es[m] bx W (bel_next (bel_next HB.out HG.out.bel) hW) ((hW.cell (p := ⟨bx, 0, none⟩) (World.block_lt_of_cell? wr _ hxr)).trans hxr)
      unfold Elem.val at HC
      have hgr : g < wr.heap.size := by have := HG.out.bel.size; omega
      have HKS : Hid (∀ (W0 : World) (s t : SFact) (o1 o2 : Nat) (W W' : World), (Below W0.heap.size W0 W ∧ W.cell? ⟨g, o1, none⟩ = some (.string ⟨s.rel.toArray⟩) ∧ W.cell? ⟨g, o1 + 1, none⟩ = some (.slice s.A s.n s.c) ∧ W.cell? ⟨g, o2, none⟩ = some (.string ⟨t.rel.toArray⟩) ∧ W.cell? ⟨g, o2 + 1, none⟩ = some (.slice t.A t.n t.c)) → Below W.heap.size W W' →
        (Below W0.heap.size W0 W' ∧ W'.cell? ⟨g, o1, none⟩ = some (.string ⟨s.rel.toArray⟩) ∧ W'.cell? ⟨g, o1 + 1, none⟩ = some (.slice s.A s.n s.c) ∧ W'.cell? ⟨g, o2, none⟩ = some (.string ⟨t.rel.toArray⟩) ∧ W'.cell? ⟨g, o2 + 1, none⟩ = some (.slice t.A t.n t.c))) := Lib.hid fun W0 s t o1 o2 W W' h hb => by
        obtain ⟨h0, h1, h2, h3, h4⟩ := h
        have key : ∀ {N j : Nat} {v : Value}, W.cell? ⟨N, j, none⟩ = some v → W'.cell? ⟨N, j, none⟩ = some v := fun {N j v} h => (hb.cell (p := ⟨N, j, none⟩) (World.block_lt_of_cell? W _ h)).trans h
        exact ⟨bel_next h0 hb, key h1, key h2, key h3, key h4⟩
      have hS := HKS.out wr es[k].sf es[m].sf _ _ wr wr.drew ⟨Below.refl _ _, x0, x1, y0, y1⟩ ((Below.refl _ _).drew)
      clear x0 x1 y0 y1 hxr
      cases hq : eqE es[k] es[m]
      · rw [hq] at HC
        have HT2 : Hid (compE (es.take (k + 1)) = es.take (k + 1)) := Lib.hid (by rw [HST.out, hq, if_neg (by simp), HT.out, List.take_succ_eq_append_getElem hlt])
        clear hq HST
        have HKS2 := Lib.hid (HKS.out wr es[k].sf es[m].sf (k * 2) (m * 2))
        clear HKS
        generalize es[k].sf = sx at *
        generalize es[m].sf = sy at *
        obtain ⟨xr, xA, xn, xc⟩ := sx
        obtain ⟨yr, yA, yn, yc⟩ := sy
        simp only at *
        go_upto_region 6 with fail
        go_region_held3 (fun W => Below wr.heap.size wr W ∧ W.cell? ⟨g, k * 2, none⟩ = some (.string ⟨xr.toArray⟩) ∧ W.cell? ⟨g, k * 2 + 1, none⟩ = some (.slice xA xn xc) ∧ W.cell? ⟨g, m * 2, none⟩ = some (.string ⟨yr.toArray⟩) ∧ W.cell? ⟨g, m * 2 + 1, none⟩ = some (.slice yA yn yc))
          (assumption)
          (first | (go_at_call 124; go_fit (HC.out _ (And.left (by assumption))); rintro e w1 ⟨rfl, hgn⟩; have hSn := HKS2.out _ _ (by assumption) hgn.bel))
        have HG2 := Lib.hid (gr_next HG.out.drew hgn)
        clear hS hSn hgn
        go_wp2
        go_roundw
        case rel => exact ⟨k + 1, by go_num, by omega, by omega, HT2, HG2⟩
        case measure => simp [intOf]; omega
      · rw [hq] at HC
        have HI0 : Hid (CompI es es k (k + 1)) := Lib.hid ⟨rfl, by rw [HST.out, hq, if_pos rfl, HT.out], by rw [HST.out, hq, if_pos rfl, HT.out, List.length_take]; omega, by omega, fun _ _ => rfl⟩
        clear hq HST
        have HKG := Lib.hid HKS.out
        have HKS2 := Lib.hid (HKS.out wr es[k].sf es[m].sf (k * 2) (m * 2))
        clear HKS
        generalize es[k].sf = sx at *
        generalize es[m].sf = sy at *
        obtain ⟨xr, xA, xn, xc⟩ := sx
        obtain ⟨yr, yA, yn, yc⟩ := sy
        simp only at *
        go_upto_region 6 with fail
        go_region_held3 (fun W => Below wr.heap.size wr W ∧ W.cell? ⟨g, k * 2, none⟩ = some (.string ⟨xr.toArray⟩) ∧ W.cell? ⟨g, k * 2 + 1, none⟩ = some (.slice xA xn xc) ∧ W.cell? ⟨g, m * 2, none⟩ = some (.string ⟨yr.toArray⟩) ∧ W.cell? ⟨g, m * 2 + 1, none⟩ = some (.slice yA yn yc))
          (assumption)
          (first | (go_at_call 124; go_fit (HC.out _ (And.left (by assumption))); rintro e w1 ⟨rfl, hgn⟩; have hSn := HKS2.out _ _ (by assumption) hgn.bel))
        have HG2 := Lib.hid (gr_next HG.out.drew hgn)
        have HO2 := Lib.hid (HO.out.gr HG2.out)
        have HGB := Lib.hid (gb_bel (p := some g) HG2.out.bel)
        have i6 : (k : Int) ≤ (cap : Int) := by omega
        have i7 : ¬ k = cap := by omega
        have i8 : ¬ (k : Int) = (cap : Int) := by omega
        clear hS hSn hgn i3 i4 i5 HKM HOr HC HKS2 HT HG
        go_wp2
        go_loopw [5, 7] (fun v5 v7 wx => ∃ (i p : Nat) (cur : List (Elem w0)), v5 = .int .i64 i ∧ v7 = .int .i64 p ∧ 1 ≤ p ∧ k + p ≤ es.length ∧ Hid (CompI es cur i (k + p)) ∧ Hid (OwnG Elem.enc 37 2 wx w0.heap.size (.slice (some ⟨g, 0, none⟩) es.length cap) cur) ∧ Hid (w.grownBy wx (some g))) (fun _ v7 _ => es.length - (intOf v7).toNat)
        case atStart => exact ⟨k, 1, es, rfl, rfl, Nat.le_refl _, by omega, HI0, HO2, HGB⟩
        case round =>
          clear HI0 HO2 HGB HG2 hgr
          obtain ⟨i, p, cur, rfl, rfl, h1p, hkp, HI, HOc, HGc⟩ := hrel
          have hlen := HI.out.len
          have hij := HI.out.lt
          have hil : i < cur.length := by omega
          have HBc := Lib.hid (below_of_own HB.out HGc.out (fun g' e => by cases e; exact hg.1))
          obtain ⟨z0, z1⟩ := HOc.out.elem hil
          have f0 := HOc.out.frz (i * 2)
          have f1 := HOc.out.frz (i * 2 + 1)
          have hgw := (HOc.out.lt g rfl).2
          rcases Nat.lt_or_ge (k + p) es.length with hlp | hgp
          · obtain ⟨q, hpq⟩ : ∃ q : Nat, q = p - 1 := ⟨_, rfl⟩
            have hql : k + q < es.length := by omega
            obtain ⟨x0, x1⟩ := HOc.out.elem (i := k + p) (by omega)
            obtain ⟨y0, y1⟩ := HOc.out.elem (i := k + q) (by omega)
            rw [HI.out.at (by omega) hlp] at x0 x1
            rw [HI.out.at (by omega) hql] at y0 y1
            rw [Nat.add_mul] at x0 x1 y0 y1
            have j1 : (0 : Int) ≤ (p : Int) := by omega
            have j2 : (p : Int) < ((es.length - k : Nat) : Int) := by omega
            have j3 : (0 : Int) ≤ (q : Int) := by omega
            have j4 : (q : Int) < ((es.length - k : Nat) : Int) := by omega
            have j5 : IntKind.i64.wrap ((p : Int) - 1) = (q : Int) := by rw [IntWalk.i64_in _ (by omega)]; omega
            have j6 : p < es.length - k := by omega
            have hxr : wr.cell? ⟨bx, 0, none⟩ = some (.func (.func 94) #[] #[]) := (World.cell?_of_block (a := ⟨bx, 0, none⟩) (HGc.out.block bx hbw (by intro e; cases e; exact hgx rfl))).trans HX.out
            have HC := Lib.hid fun W (hW : Below wr.heap.size wr W) => mergedC_gr es[k + p] es[k + q] bx W (bel_next HBc.out hW) ((hW.cell (p := ⟨bx, 0, none⟩) (World.block_lt_of_cell? wr _ hxr)).trans hxr)
            unfold Elem.val at HC
            have hS := HKG.out wr es[k + p].sf es[k + q].sf _ _ wr wr.drew ⟨Below.refl _ _, x0, x1, y0, y1⟩ ((Below.refl _ _).drew)
            have HKS2 := Lib.hid (HKG.out wr es[k + p].sf es[k + q].sf (k * 2 + p * 2) (k * 2 + q * 2))
            have HSK := Lib.hid fun h => HI.out.skip2 (m := k + q) (by omega) (by omega) hlp hql h
            have HPU := Lib.hid fun h => HI.out.put2 (m := k + q) (by omega) (by omega) hlp hql h
            have HSE := Lib.hid fun (W : World) (hW : Gr wr W) => (HOc.out.gr hW).setElem Elem.len hlen hil es[k + p] (rfl : Elem.enc es[k + p] = [.string ⟨es[k + p].sf.rel.toArray⟩, .slice es[k + p].sf.A es[k + p].sf.n es[k + p].sf.c])
            clear x0 x1 y0 y1 hxr hpq
            cases hq : eqE es[k + p] es[k + q]
            · rw [hq] at HC
              have HPQ := Lib.hid (HPU.out hq)
              clear hq HSK HPU
              generalize es[k + p] = ex at *
              generalize es[k + q] = ey at *
              generalize cur.set i ex = cur2 at *
              generalize ex.sf = sx at *
              generalize ey.sf = sy at *
              obtain ⟨xr, xA, xn, xc⟩ := sx
              obtain ⟨yr, yA, yn, yc⟩ := sy
              simp only at *
              go_upto_region 11 with fail
              go_region_held3 (fun W => Below wr.heap.size wr W ∧ W.cell? ⟨g, k * 2 + p * 2, none⟩ = some (.string ⟨xr.toArray⟩) ∧ W.cell? ⟨g, k * 2 + p * 2 + 1, none⟩ = some (.slice xA xn xc) ∧ W.cell? ⟨g, k * 2 + q * 2, none⟩ = some (.string ⟨yr.toArray⟩) ∧ W.cell? ⟨g, k * 2 + q * 2 + 1, none⟩ = some (.slice yA yn yc))
                (assumption)
                (first | (go_at_call 124; go_fit (HC.out _ (And.left (by assumption))); rintro e w1 ⟨rfl, hgn⟩; have hSn := HKS2.out _ _ (by assumption) hgn.bel))
              have HGW := Lib.hid (gr_next (Gr.refl wr).drew hgn)
              have HN := Lib.hid (HSE.out _ HGW.out)
              have HNG := Lib.hid (gb_cell (gb_cell (gb_gr HGc.out HGW.out) (i * 2) (.string ⟨xr.toArray⟩)) (i * 2 + 1) (.slice xA xn xc))
              obtain ⟨_, c0, c1, _, _⟩ := hSn
              have z0' := (HGW.out.bel.cell (p := ⟨g, i * 2, none⟩) hgw).trans z0
              have z1' := (HGW.out.bel.cell (p := ⟨g, i * 2 + 1, none⟩) hgw).trans z1
              have f0' := (HOc.out.gr HGW.out).frz (i * 2)
              have f1' := (HOc.out.gr HGW.out).frz (i * 2 + 1)
              have l1 : (0 : Int) ≤ (i : Int) := by omega
              have l2 : (i : Int) < (es.length : Int) := by omega
              have l3 : i < es.length := by omega
              clear hS hgn z0 z1 f0 f1 HSE HC HKS2
              go_wp2
              go_roundw
              case rel => exact ⟨i + 1, p + 1, cur2, by go_num, by go_num, by omega, by omega, HPQ, HN, HNG⟩
              case measure => simp [intOf]; omega
            · rw [hq] at HC
              have HPQ := Lib.hid (HSK.out hq)
              clear hq HSK HPU HSE
              generalize es[k + p] = ex at *
              generalize es[k + q] = ey at *
              generalize ex.sf = sx at *
              generalize ey.sf = sy at *
              obtain ⟨xr, xA, xn, xc⟩ := sx
              obtain ⟨yr, yA, yn, yc⟩ := sy
              simp only at *
              go_upto_region 11 with fail
              go_region_held3 (fun W => Below wr.heap.size wr W ∧ W.cell? ⟨g, k * 2 + p * 2, none⟩ = some (.string ⟨xr.toArray⟩) ∧ W.cell? ⟨g, k * 2 + p * 2 + 1, none⟩ = some (.slice xA xn xc) ∧ W.cell? ⟨g, k * 2 + q * 2, none⟩ = some (.string ⟨yr.toArray⟩) ∧ W.cell? ⟨g, k * 2 + q * 2 + 1, none⟩ = some (.slice yA yn yc))
                (assumption)
                (first | (go_at_call 124; go_fit (HC.out _ (And.left (by assumption))); rintro e w1 ⟨rfl, hgn⟩; have hSn := HKS2.out _ _ (by assumption) hgn.bel))
              have HGW := Lib.hid (gr_next (Gr.refl wr).drew hgn)
              have HN := Lib.hid (HOc.out.gr HGW.out)
              have HNG := Lib.hid (gb_gr HGc.out HGW.out)
              clear hS hSn hgn z0 z1 f0 f1 HC HKS2
              go_wp2
              go_roundw
              case rel => exact ⟨i, p + 1, cur, rfl, by go_num, by omega, by omega, HPQ, HN, HNG⟩
              case measure => simp [intOf]; omega
          · have HKP : Hid (cur.take i = compE es) := Lib.hid (by have := HI.out.kept; rw [List.take_of_length_le (show es.length ≤ k + p by omega)] at this; exact this)
            have HCN : Hid ((compE es).length = i) := Lib.hid (by have := HI.out.cnt; rw [List.take_of_length_le (show es.length ≤ k + p by omega)] at this; exact this)
            have hil2 : i < es.length := by omega
            have hcl := run_clearF wr g (i * 2) (es.length - i) (cap - i) (by omega) (fun j hj => by
              have hlt2 : i * 2 + j < cur.length * 2 := by omega
              have hc := World.ownsRow.cellAt (w := wr) (base := w0.heap.size) (e := 37) (size := 2) (g := g) (cap := cap) (n := cur.length) (xs := gcells Elem.enc cur) (by rw [hlen]; exact (by have := HOc.out; unfold OwnG at this; rw [hlen] at this; exact this)) (i * 2 + j) hlt2
              rw [hc, List.getElem?_eq_getElem (by rw [gcells_len Elem.len]; exact hlt2)]
              rfl) (fun j _ => HOc.out.frz _)
            have HCT := Lib.hid (HOc.out.cut Elem.len hlen (show i ≤ cur.length by omega) (zerosF (es.length - i)))
            have HNG := Lib.hid (gb_cells (zerosF (es.length - i)) (i * 2) wr HGc.out)
            have l1 : (0 : Int) ≤ (i : Int) := by omega
            have l2 : (i : Int) ≤ (es.length : Int) := by omega
            have l3 : i ≤ es.length := by omega
            have l4 : ¬ i = cap := by omega
            have l5 : ¬ (i : Int) = (cap : Int) := by omega
            have l6 : (i : Int) ≤ (cap : Int) := by omega
            clear z0 z1 f0 f1
            have l7 : ¬ p < es.length - k := by omega
            have l8 : ¬ (p : Int) < ((es.length - k : Nat) : Int) := by omega
            go_wp2_with (simp only [hcl])
            go_ret
            unfold CompactEnd
            rw [HCN.out, ← HKP.out]
            exact ⟨rfl, HCT.out, HNG.out⟩
    · have HTE : Hid (compE es = es) := Lib.hid (by have := HT.out; rw [List.take_of_length_le hge] at this; exact this)
      go_wp2
      go_ret
      unfold CompactEnd
      rw [HTE.out]
      exact ⟨rfl, HO.out.gr HG.out, gb_bel HG.out.bel⟩
end Go.Proofs.YtmodjokoggmnaaaGreatDoor


namespace Go.Proofs
open Go.Shelf
def Tryz.sortF_ren : Go.Shelf.Ren := ⟨fun | 6 => 122 | 15 => 143 | 14 => 142 | 28 => 166 | 29 => 114 | 20 => 158 | 21 => 159 | 22 => 160 | 23 => 161 | 24 => 162 | 25 => 163 | 26 => 164 | 27 => 165 | 46 => 172 | 47 => 173 | 48 => 174 | 49 => 175 | 50 => 176 | 57 => 178 | n => n, fun | 22 => 22 | 24 => 37 | 25 => 44 | 3 => 3 | 39 => 140 | 0 => 0 | 53 => 156 | 55 => 50 | 4 => 4 | 46 => 168 | 45 => 167 | 50 => 172 | 5 => 5 | 9 => 9 | 66 => 178 | 70 => 182 | 76 => 189 | 77 => 190 | n => n, fun | n => n⟩
theorem Tryz.sortF : Go.Proofs.SlLaysF0.n6 Tryz.prog Tryz.sortF_ren := {
  mixed := by kernel_rfl
  f6 := ⟨Tryz.f122.name, by decide, Tryz.func122.trans (congrArg some (by kernel_rfl))⟩
  f14 := ⟨Tryz.f142.name, by decide, Tryz.func142.trans (congrArg some (by kernel_rfl))⟩
  f15 := Tryz.func143.trans (congrArg some (by kernel_rfl))
  f20 := ⟨Tryz.f158.name, by decide, Tryz.func158.trans (congrArg some (by kernel_rfl))⟩
  f21 := ⟨Tryz.f159.name, by decide, Tryz.func159.trans (congrArg some (by kernel_rfl))⟩
  f22 := ⟨Tryz.f160.name, by decide, Tryz.func160.trans (congrArg some (by kernel_rfl))⟩
  f23 := ⟨Tryz.f161.name, by decide, Tryz.func161.trans (congrArg some (by kernel_rfl))⟩
  f24 := ⟨Tryz.f162.name, by decide, Tryz.func162.trans (congrArg some (by kernel_rfl))⟩
  f25 := ⟨Tryz.f163.name, by decide, Tryz.func163.trans (congrArg some (by kernel_rfl))⟩
  f26 := ⟨Tryz.f164.name, by decide, Tryz.func164.trans (congrArg some (by kernel_rfl))⟩
  f27 := ⟨Tryz.f165.name, by decide, Tryz.func165.trans (congrArg some (by kernel_rfl))⟩
  f28 := Tryz.func166.trans (congrArg some (by kernel_rfl))
  f29 := Tryz.func114.trans (congrArg some (by kernel_rfl))
  f46 := ⟨Tryz.f172.name, by decide, Tryz.func172.trans (congrArg some (by kernel_rfl))⟩
  f47 := Tryz.func173.trans (congrArg some (by kernel_rfl))
  f48 := Tryz.func174.trans (congrArg some (by kernel_rfl))
  f49 := ⟨Tryz.f175.name, by decide, Tryz.func175.trans (congrArg some (by kernel_rfl))⟩
  f50 := ⟨Tryz.f176.name, by decide, Tryz.func176.trans (congrArg some (by kernel_rfl))⟩
  f57 := ⟨Tryz.f178.name, by decide, Tryz.func178.trans (congrArg some (by kernel_rfl))⟩
  t0 := Tryz.underlying0
  a0 := Tryz.isAgg0
  z0 := Tryz.sizeOf0
  v0 := Tryz.zeroValue0
  t3 := Tryz.underlying3
  a3 := Tryz.isAgg3
  z3 := Tryz.sizeOf3
  v3 := Tryz.zeroValue3
  t4 := Tryz.underlying4
  a4 := Tryz.isAgg4
  z4 := Tryz.sizeOf4
  v4 := Tryz.zeroValue4
  t5 := Tryz.underlying5
  a5 := Tryz.isAgg5
  z5 := Tryz.sizeOf5
  v5 := Tryz.zeroValue5
  t9 := Tryz.underlying9
  a9 := Tryz.isAgg9
  z9 := Tryz.sizeOf9
  v9 := Tryz.zeroValue9
  t22 := Tryz.underlying22
  a22 := Tryz.isAgg22
  z22 := Tryz.sizeOf22
  v22 := Tryz.zeroValue22
  t25 := Tryz.underlying44
  a25 := Tryz.isAgg44
  z25 := Tryz.sizeOf44
  v25 := Tryz.zeroValue44
  t39 := Tryz.underlying140
  a39 := Tryz.isAgg140
  z39 := Tryz.sizeOf140
  v39 := Tryz.zeroValue140
  t45 := Tryz.underlying167
  a45 := Tryz.isAgg167
  z45 := Tryz.sizeOf167
  v45 := Tryz.zeroValue167
  t46 := Tryz.underlying168
  a46 := Tryz.isAgg168
  z46 := Tryz.sizeOf168
  v46 := Tryz.zeroValue168
  t50 := Tryz.underlying172
  a50 := Tryz.isAgg172
  z50 := Tryz.sizeOf172
  v50 := Tryz.zeroValue172
  t53 := Tryz.underlying156
  a53 := Tryz.isAgg156
  z53 := Tryz.sizeOf156
  v53 := Tryz.zeroValue156
  t55 := Tryz.underlying50
  a55 := Tryz.isAgg50
  z55 := Tryz.sizeOf50
  v55 := Tryz.zeroValue50
  t66 := Tryz.underlying178
  a66 := Tryz.isAgg178
  z66 := Tryz.sizeOf178
  v66 := Tryz.zeroValue178
  t70 := Tryz.underlying182
  a70 := Tryz.isAgg182
  z70 := Tryz.sizeOf182
  v70 := Tryz.zeroValue182
  t76 := Tryz.underlying189
  a76 := Tryz.isAgg189
  z76 := Tryz.sizeOf189
  v76 := Tryz.zeroValue189
  t77 := Tryz.underlying190
  a77 := Tryz.isAgg190
  z77 := Tryz.sizeOf190
  v77 := Tryz.zeroValue190 }
end Go.Proofs


namespace Go.Proofs.YtmodjokoggmnaaaGreatDoor

open Go.RowKit Go.Shelf Go.Sort

theorem swo_fact (w0 : World) : SWO (ltOf (Elem.cf (w0 := w0))) := by
  refine ⟨fun x => ?_, fun x y z h1 h2 => ?_, fun x y z h1 h2 => ?_⟩
  · simp [ltOf, Elem.cf, ord_fact.self]
  · exact decide_eq_true (ord_fact.t _ _ _ (of_decide_eq_true h1) (of_decide_eq_true h2))
  · have g1 : ¬ cmpF x.fact y.fact < 0 := of_decide_eq_false h1
    have g2 : ¬ cmpF y.fact z.fact < 0 := of_decide_eq_false h2
    have g3 := (ord_fact.laws x.fact y.fact z.fact).2.1 (by omega) (by omega)
    exact decide_eq_false (show ¬ cmpF x.fact z.fact < 0 by omega)
section

variable {α : Type} [Inhabited α]

theorem sortW_heap (enc : α → List Value) (k : Nat) (w : World) (blk off m : Nat) (dk : Array α) (os : Array Obj) (b : Nat) (hb : b < w.heap.size) (hne : b ≠ blk) : (sortWorldK enc k w blk off m dk os).heap[b]? = w.heap[b]? := by
  unfold sortWorldK putRowK putRow mapBlock grow Sort.ahead
  simp only
  rw [Array.getElem?_append_left (by simpa using hb), Array.getElem?_modify, if_neg (Ne.symm hne)]
theorem sortW_at (enc : α → List Value) (k : Nat) (w : World) (blk off m : Nat) (dk : Array α) (os : Array Obj) (cur : Array Value) (T : TypeId) (fz : Nat × Nat) (h : w.heap[blk]? = some (.cells cur T fz)) : (sortWorldK enc k w blk off m dk os).heap[blk]? = some (.cells (putCells id off (flatK enc k dk) cur) T fz) := by
  have hlt : blk < w.heap.size := by
    rcases Nat.lt_or_ge blk w.heap.size with h1 | h1
    · exact h1
    · rw [Array.getElem?_eq_none h1] at h; cases h
  unfold sortWorldK putRowK putRow mapBlock grow Sort.ahead
  simp only
  rw [Array.getElem?_append_left (by simpa using hlt), Array.getElem?_modify, if_pos rfl, h]
  rfl
theorem flat_gcells (enc : α → List Value) (k : Nat) (hk : ∀ x, (enc x).length = k) (d : Array α) : (flatK enc k d).toList = gcells enc d.toList := by
  refine List.ext_getElem? fun t => ?_
  rcases Nat.lt_or_ge t (d.size * k) with ht | ht
  · have k0 : 0 < k := by
      rcases Nat.eq_zero_or_pos k with h | h
      · subst h; simp at ht
      · exact h
    have hi : t / k < d.toList.length := by rw [Array.length_toList, Nat.div_lt_iff_lt_mul k0]; exact ht
    have hm : t % k < k := Nat.mod_lt _ k0
    have e : t / k * k + t % k = t := by rw [Nat.mul_comm]; exact Nat.div_add_mod t k
    have h1 := gcells_get hk d.toList (t / k) (t % k) hi hm
    rw [e] at h1
    rw [h1, Array.getElem?_toList, Array.getElem?_eq_getElem (by simpa using ht)]
    have h2 := get_flatK enc k d t ht
    rw [getElem!_pos _ t (by simpa using ht)] at h2
    rw [h2, getElem!_pos d (t / k) (by simpa using hi), List.getElem?_eq_getElem (by rw [hk]; exact hm)]
    rw [getElem!_pos _ _ (by rw [hk]; exact hm)]
    simp
  · rw [List.getElem?_eq_none (by simpa using ht), List.getElem?_eq_none (by rw [gcells_len hk, Array.length_toList]; exact ht)]
theorem put_take (F cur : Array Value) (h : F.size ≤ cur.size) : (putCells id 0 F cur).toList.take F.size = F.toList := by
  refine List.ext_getElem? fun t => ?_
  rcases Nat.lt_or_ge t F.size with ht | ht
  · rw [List.getElem?_take_of_lt ht, Array.getElem?_toList, Array.getElem?_toList, Array.getElem?_eq_getElem (by simp [putCells]; omega), Array.getElem?_eq_getElem ht]
    simp only [putCells, Array.getElem_mapIdx]
    rw [if_pos (by omega), Nat.sub_zero, getElem!_pos F t ht]
    rfl
  · rw [List.getElem?_eq_none (by simp; omega), List.getElem?_eq_none (by simpa using ht)]
end

theorem holdsK_own {α : Type} [Inhabited α] {enc : α → List Value} {T : TypeId} {k : Nat} (hk : ∀ x, (enc x).length = k) {w : World} {base g cap : Nat} {es : List α} (h : OwnG enc T k w base (.slice (some ⟨g, 0, none⟩) es.length cap) es) : HoldsK enc k w g 0 es.toArray := by
  rcases h.2 with ⟨hv, _⟩ | ⟨g', cap', cur, hv, hbs, hh, hn, hm, hs, ht⟩
  · cases hv
  · cases hv
    intro j hj
    have hj' : j < es.length * k := by simpa using hj
    have hfl := flat_gcells enc k hk es.toArray
    have e1 := World.ownsRow.cellAt h j hj'
    refine ⟨?_, Lib.frozen_of_heap hh _⟩
    rw [Nat.zero_add, e1]
    have e2 : (gcells enc es)[j]? = (flatK enc k es.toArray).toList[j]? := by rw [hfl]
    rw [e2, Array.getElem?_toList, Array.getElem?_eq_getElem (by simpa using hj'), getElem!_pos _ j (by simpa using hj')]
    rfl
set_option maxRecDepth 50000 in
theorem cmpLays_fact {w0 : World} (w : World) (hb : RowKit.Below w0.heap.size w0 w) (g n : Nat) (hg : w0.heap.size ≤ g) :
    CmpLays Tryz.prog 94 #[] (Elem.enc (w0 := w0)) 2 Elem.cf g 0 n w := by
  intro m os dk _ x y
  have hkeep : ∀ b, b < w0.heap.size → (sortWorldK (Elem.enc (w0 := w0)) 2 w g 0 m dk os).heap[b]? = w0.heap[b]? := fun b hlt => (sortW_heap _ _ _ _ _ _ _ _ b (Nat.lt_of_lt_of_le hlt hb.size) (by omega)).trans (hb.block b hlt)
  have hsz : w0.heap.size ≤ (sortWorldK (Elem.enc (w0 := w0)) 2 w g 0 m dk os).heap.size := Nat.le_trans hb.size (size_sortWorldK_c _ _ _ _ _ _ _ _)
  have hx := (x.2.row.keep hkeep).wide hsz
  have hy := (y.2.row.keep hkeep).wide hsz
  have h := unionC_gr x.fact y.fact x.sf.A y.sf.A x.sf.c y.sf.c _ hx hy x.2.few y.2.few
  simp only [factV] at h
  have ex : Value.agg (Elem.enc x).toArray = .agg #[.string ⟨x.fact.rel.toArray⟩, .slice x.sf.A x.fact.args.length x.sf.c] := by
    have h1 := x.2.rel
    have h2 := x.2.n
    simp only [Elem.enc, SFact.cells, Elem.fact, Elem.sf]
    rw [h1, h2]
  have ey : Value.agg (Elem.enc y).toArray = .agg #[.string ⟨y.fact.rel.toArray⟩, .slice y.sf.A y.fact.args.length y.sf.c] := by
    have h1 := y.2.rel
    have h2 := y.2.n
    simp only [Elem.enc, SFact.cells, Elem.fact, Elem.sf]
    rw [h1, h2]
  rw [ex, ey, Array.append_empty]
  exact h
def SortEnd {w0 : World} (es : List (Elem w0)) (w : World) (g cap : Nat) (e : Ending) (w' : World) : Prop :=
  e = .returned (.tuple #[]) ∧ ∃ es' : List (Elem w0), es'.Perm es ∧ SortedE es' ∧ OwnG Elem.enc 37 2 w' w0.heap.size (.slice (some ⟨g, 0, none⟩) es.length cap) es' ∧ w.grownBy w' (some g)
set_option maxRecDepth 50000 in
set_option maxHeartbeats 1000000 in
theorem sortF_any {w0 : World} (es : List (Elem w0)) (w : World) (hb : RowKit.Below w0.heap.size w0 w) (g cap : Nat) (h : OwnG Elem.enc 37 2 w w0.heap.size (.slice (some ⟨g, 0, none⟩) es.length cap) es) (hn : es.length < 4611686018427387904) :
    Calls Tryz.prog 122 #[.slice (some ⟨g, 0, none⟩) es.length cap, .func (.func 94) #[] #[]] w (SortEnd es w g cap) := by
  have hg := h.lt g rfl
  have eg : ∀ args w, (callFunc 94 args).run Tryz.prog w = .ok (.enter 94 args) w := enters_of Tryz.func94 (by kernel_rfl) rfl
  have hcon := AnyQ.slices_SortFunc Tryz.sortF 2 Tryz.isAgg37 Tryz.sizeOf37 (Elem.enc (w0 := w0)) Elem.len Elem.one Elem.cf (swo_fact w0) 94 #[] g 0 cap es.toArray w eg (cmpLays_fact w hb g _ hg.1) (holdsK_own Elem.len h) hg.2 (by simpa using hn)
  change Calls Tryz.prog 122 _ _ _ at hcon
  rw [show es.toArray.size = es.length by simp] at hcon
  refine hcon.mono ?_
  rintro e w' ⟨rfl, d', n, os, hp, hs, rfl⟩
  obtain ⟨hp1, _, hp3⟩ := hp
  have hds : d'.size = es.length := by simpa using hp1
  refine ⟨rfl, d'.toList, ?_, ?_, ?_, ?_⟩
  · have e1 : d'.extract 0 es.length = d' := by rw [← hds]; simp
    have e2 : es.toArray.extract 0 es.length = es.toArray := by simp
    rw [e1, e2] at hp3
    simpa using hp3
  · refine List.pairwise_iff_getElem.2 fun i j hi hj hij => ?_
    rw [Array.length_toList] at hi hj
    have := hs i j (Nat.zero_le _) hij (by omega)
    rw [getElem!_pos d' i hi, getElem!_pos d' j hj] at this
    have this : ¬ Elem.cf d'[j] d'[i] < 0 := of_decide_eq_false this
    have hneg : Elem.cf d'[i] d'[j] = - Elem.cf d'[j] d'[i] := ord_fact.n _ _
    simp only [Array.getElem_toList]
    omega
  · rcases h.2 with ⟨hv, _⟩ | ⟨g', cap', cur, hv, hbs, hh, hn', hm, hss, ht⟩
    · cases hv
    · cases hv
      have hl : d'.toList.length = es.length := by rw [Array.length_toList, hds]
      refine ⟨gcells_len Elem.len _, .inr ⟨g, cap, _, by rw [hl], hbs, sortW_at _ _ _ _ _ _ _ _ cur _ _ hh, by omega, hm, by simp [putCells, hss], ?_⟩⟩
      have hfs : (flatK (Elem.enc (w0 := w0)) 2 d').size = d'.toList.length * 2 := by simp
      rw [← hfs, put_take _ _ (by simp; omega), flat_gcells _ _ Elem.len]
  · refine ⟨rfl, rfl, rfl, size_sortWorldK_c _ _ _ _ _ _ _ _, fun b hlt hne => sortW_heap _ _ _ _ _ _ _ _ b hlt (by intro e; exact hne (by rw [e]))⟩
end Go.Proofs.YtmodjokoggmnaaaGreatDoor
