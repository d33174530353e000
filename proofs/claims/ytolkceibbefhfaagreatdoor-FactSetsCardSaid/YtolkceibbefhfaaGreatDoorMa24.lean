/-
  slices.CompactFunc at facts, by the closure that merged hands to it: of equal neighbours the first is kept.
  Conditions: the slice is one of the call's own, of at most 1000000 facts; the facts' arguments lie in memory that the call does not turn.
  DERIVED: THE SHELF's CONTRACTS AT THIS DUMP, IN PLAIN WORDS (tools/lay-plain.mjs out of 'TryzSortLay.lean', which tools/lay-shelf.mjs wrote): THE SAME DECLARATIONS UNDER THE SAME NAMES: 'import', 'namespace', 'open', 'def', 'theorem' AND NOTHING ELSE: no command of the shelf's: FOR A HAND-IN. Each laying: the table of numbers ('.._ren') and one theorem, a field a fact of the dump's own or the kernel's comparison; each contract: ONE APPLICATION.
-/
import Derived.Test.YtolkceibbefhfaaGreatDoorMa23
import Derived.Deep.DeepCutAuto
import Derived.Shelf.SlGeneric
import Derived.Shelf.SlSortCmp.WholeK
import Derived.Ground.SlsfProg
import Derived.Test.YtolkceibbefhfaaGreatDoorProg
namespace Go.Proofs.YtolkceibbefhfaaGreatDoor
open Go.RowKit Go.Shelf

/-- The cells of element i of a row of facts of the call's own. -/
theorem OwnG.elem {w0 w : World} {base g cap n : Nat} {es : List (Elem w0)} (h : OwnG Elem.enc 25 2 w base (.slice (some ⟨g, 0, none⟩) n cap) es) {i : Nat} (hi : i < es.length) :
    w.cell? ⟨g, i * 2, none⟩ = some (.string ⟨es[i].sf.rel.toArray⟩) ∧ w.cell? ⟨g, i * 2 + 1, none⟩ = some (.slice es[i].sf.A es[i].sf.n es[i].sf.c) := by
  obtain ⟨A, c, e, _, _, hr⟩ := h.row Elem.len
  cases e
  obtain ⟨b, off, e, _, hc⟩ := hr (by omega)
  cases e
  have h0 := hc i hi 0 _ rfl
  have h1 := hc i hi 1 _ rfl
  simp only [Nat.zero_add, Nat.add_zero] at h0 h1
  exact ⟨h0, h1⟩
theorem OwnG.gr {α : Type} {enc : α → List Value} {T : TypeId} {k : Nat} {w w' : World} {base : Nat} {v : Value} {l : List α} (h : OwnG enc T k w base v l) (hb : Gr w w') : OwnG enc T k w' base v l := h.next hb.bel
theorem OwnG.frz {w0 w : World} {base g cap n : Nat} {es : List (Elem w0)} (h : OwnG Elem.enc 25 2 w base (.slice (some ⟨g, 0, none⟩) n cap) es) (j : Nat) : w.frozen? ⟨g, j, none⟩ = false := by
  rcases h.2 with ⟨hv, _⟩ | ⟨g', cap', cur, hv, _, hh, _⟩
  · cases hv
  · cases hv; exact Lib.frozen_of_heap hh j
theorem compE_step2 {w0 : World} {es : List (Elem w0)} {k m : Nat} (hkm : m = k - 1) (h0 : 1 ≤ k) (h : k < es.length) (hm : m < es.length) :
    compE (es.take (k + 1)) = if eqE es[k] es[m] then compE (es.take k) else compE (es.take k) ++ [es[k]] := by
  subst hkm
  exact compE_step h0 h
def CompactEnd {w0 : World} (es : List (Elem w0)) (w : World) (g cap : Nat) (e : Ending) (w' : World) : Prop :=
  e = .returned (.slice (some ⟨g, 0, none⟩) (compE es).length cap) ∧ OwnG Elem.enc 25 2 w' w0.heap.size (.slice (some ⟨g, 0, none⟩) (compE es).length cap) (compE es) ∧ w.grownBy w' (some g)
/-- Where the second loop stands: i elements are kept of the first m + 1 + p. -/
structure CompI {w0 : World} (es cur : List (Elem w0)) (i j : Nat) : Prop where
  len : cur.length = es.length
  kept : cur.take i = compE (es.take j)
  cnt : (compE (es.take j)).length = i
  lt : i < j
  rest : ∀ t, j ≤ t + 1 → cur[t]? = es[t]?
theorem CompI.at {w0 : World} {es cur : List (Elem w0)} {i j : Nat} (h : CompI es cur i j) {t : Nat} (ht : j ≤ t + 1) (h1 : t < es.length) : cur[t]'(by rw [h.len]; exact h1) = es[t] := by
  have := h.rest t ht
  rw [List.getElem?_eq_getElem (by rw [h.len]; exact h1), List.getElem?_eq_getElem h1] at this
  exact Option.some.inj this
theorem CompI.skip2 {w0 : World} {es cur : List (Elem w0)} {i j m : Nat} (h : CompI es cur i j) (hm : m = j - 1) (h0 : 1 ≤ j) (hj : j < es.length) (hml : m < es.length) (he : eqE es[j] es[m] = true) : CompI es cur i (j + 1) := by
  subst hm
  have hs := compE_step h0 hj
  rw [if_pos he] at hs
  exact ⟨h.len, by rw [hs]; exact h.kept, by rw [hs]; exact h.cnt, by have := h.lt; omega, fun t ht => h.rest t (by omega)⟩
theorem CompI.put2 {w0 : World} {es cur : List (Elem w0)} {i j m : Nat} (h : CompI es cur i j) (hm : m = j - 1) (h0 : 1 ≤ j) (hj : j < es.length) (hml : m < es.length) (he : eqE es[j] es[m] = false) : CompI es (cur.set i es[j]) (i + 1) (j + 1) := by
  subst hm
  have hs := compE_step h0 hj
  rw [if_neg (by rw [he]; simp)] at hs
  have hlt := h.lt
  have hl := h.len
  refine ⟨by rw [List.length_set]; exact hl, ?_, by rw [hs]; simp [h.cnt], by omega, fun t ht => ?_⟩
  · rw [hs, ← h.kept, List.take_succ_eq_append_getElem (by rw [List.length_set]; omega), List.getElem_set_self]
    rw [List.take_set_of_le (by omega)]
  · rw [List.getElem?_set_ne (by omega)]
    exact h.rest t (by omega)
set_option maxRecDepth 50000 in
set_option maxHeartbeats 1000000 in
theorem compactF_any {w0 : World} (es : List (Elem w0)) (bx g cap : Nat) (w : World) (hb : Below w0.heap.size w0 w) (hx : w.cell? ⟨bx, 0, none⟩ = some (.func (.func 56) #[] #[])) (hgx : bx ≠ g) (h : OwnG Elem.enc 25 2 w w0.heap.size (.slice (some ⟨g, 0, none⟩) es.length cap) es) (hn : es.length ≤ 1000000) (h2 : 2 ≤ es.length) :
    Calls Tryz.prog 80 #[.slice (some ⟨g, 0, none⟩) es.length cap, .func (.func 81) #[] #[.pointer (some ⟨bx, 0, none⟩)]] w (CompactEnd es w g cap) := by
  have hg := h.lt g rfl
  have hbw := World.block_lt_of_cell? w _ hx
  simp only at hbw
  obtain ⟨A7, c7, e7, hcap, hmax, _⟩ := h.row Elem.len
  cases e7
  unfold maxLen at hmax
  have HO := Lib.hid h
  have HB := Lib.hid hb
  have HX := Lib.hid hx
  clear h hb hx
  go_enter Tryz.func80, Tryz.ntmps80
  go_wp2
  go_loopw [5] (fun v5 wr => ∃ k : Nat, v5 = .int .i64 k ∧ 1 ≤ k ∧ k ≤ es.length ∧ Hid (compE (es.take k) = es.take k) ∧ Hid (Gr w wr)) (fun v5 _ => es.length - (intOf v5).toNat)
  case atStart => exact ⟨1, rfl, Nat.le_refl _, by omega, Lib.hid (compE_one (by omega)), Lib.hid (Gr.refl _)⟩
  case round =>
    obtain ⟨k, rfl, h1k, hkn, HT, HG⟩ := hrel
    rcases Nat.lt_or_ge k es.length with hlt | hge
    · obtain ⟨m, hkm⟩ : ∃ m : Nat, m = k - 1 := ⟨_, rfl⟩
      have hml : m < es.length := by omega
      have HOr := Lib.hid (HO.out.gr HG.out)
      obtain ⟨x0, x1⟩ := HOr.out.elem hlt
      obtain ⟨y0, y1⟩ := HOr.out.elem hml
      have HST := Lib.hid (compE_step2 hkm h1k hlt hml)
      have i1 : (0 : Int) ≤ (k : Int) := by omega
      have i2 : (k : Int) < (es.length : Int) := by omega
      have i3 : (0 : Int) ≤ (m : Int) := by omega
      have i4 : (m : Int) < (es.length : Int) := by omega
      have i5 : IntKind.i64.wrap ((k : Int) - 1) = (m : Int) := by rw [IntWalk.i64_in _ (by omega)]; omega
      have HKM := Lib.hid hkm
      clear hkm
      have hxr : wr.cell? ⟨bx, 0, none⟩ = some (.func (.func 56) #[] #[]) := (HG.out.bel.cell (p := ⟨bx, 0, none⟩) hbw).trans HX.out
      have HC := Lib.hid fun W (hW : Below wr.heap.size wr W) => mergedC_gr es[k] es[m] bx W (bel_next (bel_next HB.out HG.out.bel) hW) ((hW.cell (p := ⟨bx, 0, none⟩) (World.block_lt_of_cell? wr _ hxr)).trans hxr)
      unfold Elem.val at HC
      have hgr : g < wr.heap.size := by have := HG.out.bel.size; omega
      have HKS : Hid (∀ (W0 : World) (s t : SFact) (o1 o2 : Nat) (W W' : World), (Below W0.heap.size W0 W ∧ W.cell? ⟨g, o1, none⟩ = some (.string ⟨s.rel.toArray⟩) ∧ W.cell? ⟨g, o1 + 1, none⟩ = some (.slice s.A s.n s.c) ∧ W.cell? ⟨g, o2, none⟩ = some (.string ⟨t.rel.toArray⟩) ∧ W.cell? ⟨g, o2 + 1, none⟩ = some (.slice t.A t.n t.c)) → Below W.heap.size W W' →
        (Below W0.heap.size W0 W' ∧ W'.cell? ⟨g, o1, none⟩ = some (.string ⟨s.rel.toArray⟩) ∧ W'.cell? ⟨g, o1 + 1, none⟩ = some (.slice s.A s.n s.c) ∧ W'.cell? ⟨g, o2, none⟩ = some (.string ⟨t.rel.toArray⟩) ∧ W'.cell? ⟨g, o2 + 1, none⟩ = some (.slice t.A t.n t.c))) := Lib.hid fun W0 s t o1 o2 W W' h hb => by
        obtain ⟨h0, h1, h2, h3, h4⟩ := h
        have key : ∀ {N j : Nat} {v : Value}, W.cell? ⟨N, j, none⟩ = some v → W'.cell? ⟨N, j, none⟩ = some v := fun {N j v} h => (hb.cell (p := ⟨N, j, none⟩) (World.block_lt_of_cell? W _ h)).trans h
        exact ⟨bel_next h0 hb, key h1, key h2, key h3, key h4⟩
      have hS := HKS.out wr es[k].sf es[m].sf _ _ wr wr.drew ⟨Below.refl _ _, x0, x1, y0, y1⟩ ((Below.refl _ _).drew)
      clear x0 x1 y0 y1 hxr
      cases hq : eqE es[k] es[m]
      · rw [hq] at HC
        have HT2 : Hid (compE (es.take (k + 1)) = es.take (k + 1)) := Lib.hid (by rw [HST.out, hq, if_neg (by simp), HT.out, List.take_succ_eq_append_getElem hlt])
        clear hq HST
        have HKS2 := Lib.hid (HKS.out wr es[k].sf es[m].sf (k * 2) (m * 2))
        clear HKS
        generalize es[k].sf = sx at *
        generalize es[m].sf = sy at *
        obtain ⟨xr, xA, xn, xc⟩ := sx
        obtain ⟨yr, yA, yn, yc⟩ := sy
        simp only at *
        go_upto_region 6 with fail
        go_region_held3 (fun W => Below wr.heap.size wr W ∧ W.cell? ⟨g, k * 2, none⟩ = some (.string ⟨xr.toArray⟩) ∧ W.cell? ⟨g, k * 2 + 1, none⟩ = some (.slice xA xn xc) ∧ W.cell? ⟨g, m * 2, none⟩ = some (.string ⟨yr.toArray⟩) ∧ W.cell? ⟨g, m * 2 + 1, none⟩ = some (.slice yA yn yc))
          (assumption)
          (first | (go_at_call 81; go_fit (HC.out _ (And.left (by assumption))); rintro e w1 ⟨rfl, hgn⟩; have hSn := HKS2.out _ _ (by assumption) hgn.bel))
        have HG2 := Lib.hid (gr_next HG.out.drew hgn)
        clear hS hSn hgn
        go_wp2
        go_roundw
        case rel => exact ⟨k + 1, by go_num, by omega, by omega, HT2, HG2⟩
        case measure => simp [intOf]; omega
      · rw [hq] at HC
        have HI0 : Hid (CompI es es k (k + 1)) := Lib.hid ⟨rfl, by rw [HST.out, hq, if_pos rfl, HT.out], by rw [HST.out, hq, if_pos rfl, HT.out, List.length_take]; omega, by omega, fun _ _ => rfl⟩
        clear hq HST
        have HKG := Lib.hid HKS.out
        have HKS2 := Lib.hid (HKS.out wr es[k].sf es[m].sf (k * 2) (m * 2))
        clear HKS
        generalize es[k].sf = sx at *
        generalize es[m].sf = sy at *
        obtain ⟨xr, xA, xn, xc⟩ := sx
        obtain ⟨yr, yA, yn, yc⟩ := sy
        simp only at *
        go_upto_region 6 with fail
        go_region_held3 (fun W => Below wr.heap.size wr W ∧ W.cell? ⟨g, k * 2, none⟩ = some (.string ⟨xr.toArray⟩) ∧ W.cell? ⟨g, k * 2 + 1, none⟩ = some (.slice xA xn xc) ∧ W.cell? ⟨g, m * 2, none⟩ = some (.string ⟨yr.toArray⟩) ∧ W.cell? ⟨g, m * 2 + 1, none⟩ = some (.slice yA yn yc))
          (assumption)
          (first | (go_at_call 81; go_fit (HC.out _ (And.left (by assumption))); rintro e w1 ⟨rfl, hgn⟩; have hSn := HKS2.out _ _ (by assumption) hgn.bel))
        have HG2 := Lib.hid (gr_next HG.out.drew hgn)
        have HO2 := Lib.hid (HO.out.gr HG2.out)
        have HGB := Lib.hid (gb_bel (p := some g) HG2.out.bel)
        have i6 : (k : Int) ≤ (cap : Int) := by omega
        have i7 : ¬ k = cap := by omega
        have i8 : ¬ (k : Int) = (cap : Int) := by omega
        clear hS hSn hgn i3 i4 i5 HKM HOr HC HKS2 HT HG
        go_wp2
        go_loopw [5, 7] (fun v5 v7 wx => ∃ (i p : Nat) (cur : List (Elem w0)), v5 = .int .i64 i ∧ v7 = .int .i64 p ∧ 1 ≤ p ∧ k + p ≤ es.length ∧ Hid (CompI es cur i (k + p)) ∧ Hid (OwnG Elem.enc 25 2 wx w0.heap.size (.slice (some ⟨g, 0, none⟩) es.length cap) cur) ∧ Hid (w.grownBy wx (some g))) (fun _ v7 _ => es.length - (intOf v7).toNat)
        case atStart => exact ⟨k, 1, es, rfl, rfl, Nat.le_refl _, by omega, HI0, HO2, HGB⟩
        case round =>
          clear HI0 HO2 HGB HG2 hgr
          obtain ⟨i, p, cur, rfl, rfl, h1p, hkp, HI, HOc, HGc⟩ := hrel
          have hlen := HI.out.len
          have hij := HI.out.lt
          have hil : i < cur.length := by omega
          have HBc := Lib.hid (below_of_own HB.out HGc.out (fun g' e => by cases e; exact hg.1))
          obtain ⟨z0, z1⟩ := HOc.out.elem hil
          have f0 := HOc.out.frz (i * 2)
          have f1 := HOc.out.frz (i * 2 + 1)
          have hgw := (HOc.out.lt g rfl).2
          rcases Nat.lt_or_ge (k + p) es.length with hlp | hgp
          · obtain ⟨q, hpq⟩ : ∃ q : Nat, q = p - 1 := ⟨_, rfl⟩
            have hql : k + q < es.length := by omega
            obtain ⟨x0, x1⟩ := HOc.out.elem (i := k + p) (by omega)
            obtain ⟨y0, y1⟩ := HOc.out.elem (i := k + q) (by omega)
            rw [HI.out.at (by omega) hlp] at x0 x1
            rw [HI.out.at (by omega) hql] at y0 y1
            rw [Nat.add_mul] at x0 x1 y0 y1
            have j1 : (0 : Int) ≤ (p : Int) := by omega
            have j2 : (p : Int) < ((es.length - k : Nat) : Int) := by omega
            have j3 : (0 : Int) ≤ (q : Int) := by omega
            have j4 : (q : Int) < ((es.length - k : Nat) : Int) := by omega
            have j5 : IntKind.i64.wrap ((p : Int) - 1) = (q : Int) := by rw [IntWalk.i64_in _ (by omega)]; omega
            have j6 : p < es.length - k := by omega
            have hxr : wr.cell? ⟨bx, 0, none⟩ = some (.func (.func 56) #[] #[]) := (World.cell?_of_block (a := ⟨bx, 0, none⟩) (HGc.out.block bx hbw (by intro e; cases e; exact hgx rfl))).trans HX.out
            have HC := Lib.hid fun W (hW : Below wr.heap.size wr W) => mergedC_gr es[k + p] es[k + q] bx W (bel_next HBc.out hW) ((hW.cell (p := ⟨bx, 0, none⟩) (World.block_lt_of_cell? wr _ hxr)).trans hxr)
            unfold Elem.val at HC
            have hS := HKG.out wr es[k + p].sf es[k + q].sf _ _ wr wr.drew ⟨Below.refl _ _, x0, x1, y0, y1⟩ ((Below.refl _ _).drew)
            have HKS2 := Lib.hid (HKG.out wr es[k + p].sf es[k + q].sf (k * 2 + p * 2) (k * 2 + q * 2))
            have HSK := Lib.hid fun h => HI.out.skip2 (m := k + q) (by omega) (by omega) hlp hql h
            have HPU := Lib.hid fun h => HI.out.put2 (m := k + q) (by omega) (by omega) hlp hql h
            have HSE := Lib.hid fun (W : World) (hW : Gr wr W) => (HOc.out.gr hW).setElem Elem.len hlen hil es[k + p] (rfl : Elem.enc es[k + p] = [.string ⟨es[k + p].sf.rel.toArray⟩, .slice es[k + p].sf.A es[k + p].sf.n es[k + p].sf.c])
            clear x0 x1 y0 y1 hxr hpq
            cases hq : eqE es[k + p] es[k + q]
            · rw [hq] at HC
              have HPQ := Lib.hid (HPU.out hq)
              clear hq HSK HPU
              generalize es[k + p] = ex at *
              generalize es[k + q] = ey at *
              generalize cur.set i ex = cur2 at *
              generalize ex.sf = sx at *
              generalize ey.sf = sy at *
              obtain ⟨xr, xA, xn, xc⟩ := sx
              obtain ⟨yr, yA, yn, yc⟩ := sy
              simp only at *
              go_upto_region 11 with fail
              go_region_held3 (fun W => Below wr.heap.size wr W ∧ W.cell? ⟨g, k * 2 + p * 2, none⟩ = some (.string ⟨xr.toArray⟩) ∧ W.cell? ⟨g, k * 2 + p * 2 + 1, none⟩ = some (.slice xA xn xc) ∧ W.cell? ⟨g, k * 2 + q * 2, none⟩ = some (.string ⟨yr.toArray⟩) ∧ W.cell? ⟨g, k * 2 + q * 2 + 1, none⟩ = some (.slice yA yn yc))
                (assumption)
                (first | (go_at_call 81; go_fit (HC.out _ (And.left (by assumption))); rintro e w1 ⟨rfl, hgn⟩; have hSn := HKS2.out _ _ (by assumption) hgn.bel))
              have HGW := Lib.hid (gr_next (Gr.refl wr).drew hgn)
              have HN := Lib.hid (HSE.out _ HGW.out)
              have HNG := Lib.hid (gb_cell (gb_cell (gb_gr HGc.out HGW.out) (i * 2) (.string ⟨xr.toArray⟩)) (i * 2 + 1) (.slice xA xn xc))
              obtain ⟨_, c0, c1, _, _⟩ := hSn
              have z0' := (HGW.out.bel.cell (p := ⟨g, i * 2, none⟩) hgw).trans z0
              have z1' := (HGW.out.bel.cell (p := ⟨g, i * 2 + 1, none⟩) hgw).trans z1
              have f0' := (HOc.out.gr HGW.out).frz (i * 2)
              have f1' := (HOc.out.gr HGW.out).frz (i * 2 + 1)
              have l1 : (0 : Int) ≤ (i : Int) := by omega
              have l2 : (i : Int) < (es.length : Int) := by omega
              have l3 : i < es.length := by omega
              clear hS hgn z0 z1 f0 f1 HSE HC HKS2
              go_wp2
              go_roundw
              case rel => exact ⟨i + 1, p + 1, cur2, by go_num, by go_num, by omega, by omega, HPQ, HN, HNG⟩
              case measure => simp [intOf]; omega
            · rw [hq] at HC
              have HPQ := Lib.hid (HSK.out hq)
              clear hq HSK HPU HSE
              generalize es[k + p] = ex at *
              generalize es[k + q] = ey at *
              generalize ex.sf = sx at *
              generalize ey.sf = sy at *
              obtain ⟨xr, xA, xn, xc⟩ := sx
              obtain ⟨yr, yA, yn, yc⟩ := sy
              simp only at *
              go_upto_region 11 with fail
              go_region_held3 (fun W => Below wr.heap.size wr W ∧ W.cell? ⟨g, k * 2 + p * 2, none⟩ = some (.string ⟨xr.toArray⟩) ∧ W.cell? ⟨g, k * 2 + p * 2 + 1, none⟩ = some (.slice xA xn xc) ∧ W.cell? ⟨g, k * 2 + q * 2, none⟩ = some (.string ⟨yr.toArray⟩) ∧ W.cell? ⟨g, k * 2 + q * 2 + 1, none⟩ = some (.slice yA yn yc))
                (assumption)
                (first | (go_at_call 81; go_fit (HC.out _ (And.left (by assumption))); rintro e w1 ⟨rfl, hgn⟩; have hSn := HKS2.out _ _ (by assumption) hgn.bel))
              have HGW := Lib.hid (gr_next (Gr.refl wr).drew hgn)
              have HN := Lib.hid (HOc.out.gr HGW.out)
              have HNG := Lib.hid (gb_gr HGc.out HGW.out)
              clear hS hSn hgn z0 z1 f0 f1 HC HKS2
              go_wp2
              go_roundw
              case rel => exact ⟨i, p + 1, cur, rfl, by go_num, by omega, by omega, HPQ, HN, HNG⟩
              case measure => simp [intOf]; omega
          · have HKP : Hid (cur.take i = compE es) := Lib.hid (by have := HI.out.kept; rw [List.take_of_length_le (show es.length ≤ k + p by omega)] at this; exact this)
            have HCN : Hid ((compE es).length = i) := Lib.hid (by have := HI.out.cnt; rw [List.take_of_length_le (show es.length ≤ k + p by omega)] at this; exact this)
            have hil2 : i < es.length := by omega
            have hcl := run_clearF wr g (i * 2) (es.length - i) (cap - i) (by omega) (fun j hj => by
              have hlt2 : i * 2 + j < cur.length * 2 := by omega
              have hc := World.ownsRow.cellAt (w := wr) (base := w0.heap.size) (e := 25) (size := 2) (g := g) (cap := cap) (n := cur.length) (xs := gcells Elem.enc cur) (by rw [hlen]; exact (by have := HOc.out; unfold OwnG at this; rw [hlen] at this; exact this)) (i * 2 + j) hlt2
              rw [hc, List.getElem?_eq_getElem (by rw [gcells_len Elem.len]; exact hlt2)]
              rfl) (fun j _ => HOc.out.frz _)
            have HCT := Lib.hid (HOc.out.cut Elem.len hlen (show i ≤ cur.length by omega) (zerosF (es.length - i)))
            have HNG := Lib.hid (gb_cells (zerosF (es.length - i)) (i * 2) wr HGc.out)
            have l1 : (0 : Int) ≤ (i : Int) := by omega
            have l2 : (i : Int) ≤ (es.length : Int) := by omega
            have l3 : i ≤ es.length := by omega
            have l4 : ¬ i = cap := by omega
            have l5 : ¬ (i : Int) = (cap : Int) := by omega
            have l6 : (i : Int) ≤ (cap : Int) := by omega
            clear z0 z1 f0 f1
            have l7 : ¬ p < es.length - k := by omega
            have l8 : ¬ (p : Int) < ((es.length - k : Nat) : Int) := by omega
            go_wp2_with (simp only [hcl])
            go_ret
            unfold CompactEnd
            rw [HCN.out, ← HKP.out]
            exact ⟨rfl, HCT.out, HNG.out⟩
    · have HTE : Hid (compE es = es) := Lib.hid (by have := HT.out; rw [List.take_of_length_le hge] at this; exact this)
      go_wp2
      go_ret
      unfold CompactEnd
      rw [HTE.out]
      exact ⟨rfl, HO.out.gr HG.out, gb_bel HG.out.bel⟩
end Go.Proofs.YtolkceibbefhfaaGreatDoor


namespace Go.Proofs
open Go.Shelf
def Tryz.sortF_ren : Go.Shelf.Ren := ⟨fun | 6 => 79 | 15 => 105 | 14 => 104 | 28 => 133 | 29 => 111 | 20 => 125 | 21 => 126 | 22 => 127 | 23 => 128 | 24 => 129 | 25 => 130 | 26 => 131 | 27 => 132 | 46 => 147 | 47 => 148 | 48 => 149 | 49 => 150 | 50 => 151 | 57 => 162 | n => n, fun | 22 => 22 | 24 => 25 | 25 => 34 | 3 => 3 | 39 => 120 | 0 => 0 | 53 => 150 | 55 => 68 | 4 => 4 | 46 => 143 | 45 => 142 | 50 => 147 | 5 => 5 | 9 => 9 | 66 => 156 | 70 => 160 | 76 => 170 | 77 => 171 | n => n, fun | n => n⟩
theorem Tryz.sortF : Go.Proofs.SlLaysF0.n6 Tryz.prog Tryz.sortF_ren := {
  mixed := by kernel_rfl
  f6 := ⟨Tryz.f79.name, by decide, Tryz.func79.trans (congrArg some (by kernel_rfl))⟩
  f14 := ⟨Tryz.f104.name, by decide, Tryz.func104.trans (congrArg some (by kernel_rfl))⟩
  f15 := Tryz.func105.trans (congrArg some (by kernel_rfl))
  f20 := ⟨Tryz.f125.name, by decide, Tryz.func125.trans (congrArg some (by kernel_rfl))⟩
  f21 := ⟨Tryz.f126.name, by decide, Tryz.func126.trans (congrArg some (by kernel_rfl))⟩
  f22 := ⟨Tryz.f127.name, by decide, Tryz.func127.trans (congrArg some (by kernel_rfl))⟩
  f23 := ⟨Tryz.f128.name, by decide, Tryz.func128.trans (congrArg some (by kernel_rfl))⟩
  f24 := ⟨Tryz.f129.name, by decide, Tryz.func129.trans (congrArg some (by kernel_rfl))⟩
  f25 := ⟨Tryz.f130.name, by decide, Tryz.func130.trans (congrArg some (by kernel_rfl))⟩
  f26 := ⟨Tryz.f131.name, by decide, Tryz.func131.trans (congrArg some (by kernel_rfl))⟩
  f27 := ⟨Tryz.f132.name, by decide, Tryz.func132.trans (congrArg some (by kernel_rfl))⟩
  f28 := Tryz.func133.trans (congrArg some (by kernel_rfl))
  f29 := Tryz.func111.trans (congrArg some (by kernel_rfl))
  f46 := ⟨Tryz.f147.name, by decide, Tryz.func147.trans (congrArg some (by kernel_rfl))⟩
  f47 := Tryz.func148.trans (congrArg some (by kernel_rfl))
  f48 := Tryz.func149.trans (congrArg some (by kernel_rfl))
  f49 := ⟨Tryz.f150.name, by decide, Tryz.func150.trans (congrArg some (by kernel_rfl))⟩
  f50 := ⟨Tryz.f151.name, by decide, Tryz.func151.trans (congrArg some (by kernel_rfl))⟩
  f57 := ⟨Tryz.f162.name, by decide, Tryz.func162.trans (congrArg some (by kernel_rfl))⟩
  t0 := Tryz.underlying0
  a0 := Tryz.isAgg0
  z0 := Tryz.sizeOf0
  v0 := Tryz.zeroValue0
  t3 := Tryz.underlying3
  a3 := Tryz.isAgg3
  z3 := Tryz.sizeOf3
  v3 := Tryz.zeroValue3
  t4 := Tryz.underlying4
  a4 := Tryz.isAgg4
  z4 := Tryz.sizeOf4
  v4 := Tryz.zeroValue4
  t5 := Tryz.underlying5
  a5 := Tryz.isAgg5
  z5 := Tryz.sizeOf5
  v5 := Tryz.zeroValue5
  t9 := Tryz.underlying9
  a9 := Tryz.isAgg9
  z9 := Tryz.sizeOf9
  v9 := Tryz.zeroValue9
  t22 := Tryz.underlying22
  a22 := Tryz.isAgg22
  z22 := Tryz.sizeOf22
  v22 := Tryz.zeroValue22
  t25 := Tryz.underlying34
  a25 := Tryz.isAgg34
  z25 := Tryz.sizeOf34
  v25 := Tryz.zeroValue34
  t39 := Tryz.underlying120
  a39 := Tryz.isAgg120
  z39 := Tryz.sizeOf120
  v39 := Tryz.zeroValue120
  t45 := Tryz.underlying142
  a45 := Tryz.isAgg142
  z45 := Tryz.sizeOf142
  v45 := Tryz.zeroValue142
  t46 := Tryz.underlying143
  a46 := Tryz.isAgg143
  z46 := Tryz.sizeOf143
  v46 := Tryz.zeroValue143
  t50 := Tryz.underlying147
  a50 := Tryz.isAgg147
  z50 := Tryz.sizeOf147
  v50 := Tryz.zeroValue147
  t53 := Tryz.underlying150
  a53 := Tryz.isAgg150
  z53 := Tryz.sizeOf150
  v53 := Tryz.zeroValue150
  t55 := Tryz.underlying68
  a55 := Tryz.isAgg68
  z55 := Tryz.sizeOf68
  v55 := Tryz.zeroValue68
  t66 := Tryz.underlying156
  a66 := Tryz.isAgg156
  z66 := Tryz.sizeOf156
  v66 := Tryz.zeroValue156
  t70 := Tryz.underlying160
  a70 := Tryz.isAgg160
  z70 := Tryz.sizeOf160
  v70 := Tryz.zeroValue160
  t76 := Tryz.underlying170
  a76 := Tryz.isAgg170
  z76 := Tryz.sizeOf170
  v76 := Tryz.zeroValue170
  t77 := Tryz.underlying171
  a77 := Tryz.isAgg171
  z77 := Tryz.sizeOf171
  v77 := Tryz.zeroValue171 }
end Go.Proofs
