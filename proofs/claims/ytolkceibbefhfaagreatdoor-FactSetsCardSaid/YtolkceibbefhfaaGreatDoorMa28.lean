/-
  facts.Remove: the facts that are not the one given, and their set.
  Conditions: the list has at most 1000000 facts, each of at most 1000000 arguments.
  facts.Remove in terms of plain facts.
  Conditions: the list has at most 1000000 facts, each of at most 1000000 arguments.
-/
import Derived.Test.YtolkceibbefhfaaGreatDoorMa27
namespace Go.Proofs.YtolkceibbefhfaaGreatDoor
open Go.RowKit Go.Shelf

set_option maxRecDepth 50000 in
set_option maxHeartbeats 1000000 in
theorem removeC_any (f g : GFact) (s t : SFact) (bx : Nat) (w : World) (h0 : w.cell? ⟨bx, 0, none⟩ = some (.string ⟨s.rel.toArray⟩)) (h1 : w.cell? ⟨bx, 1, none⟩ = some (.slice s.A s.n s.c)) (hf : FHold w w.heap.size s f) (hg : FHold w w.heap.size t g) :
    Calls Tryz.prog 31 #[.agg #[.string ⟨t.rel.toArray⟩, .slice t.A t.n t.c], .pointer (some ⟨bx, 0, none⟩)] w fun e w' => e = .returned (.bool (!isF f g)) ∧ Below w.heap.size w w' := by
  obtain ⟨sr, sA, sn, sc⟩ := s
  obtain ⟨tr, tA, tn, tc⟩ := t
  have e1 := hf.rel
  have e2 := hf.n
  have e3 := hg.rel
  have e4 := hg.n
  simp only at *
  subst e1 e2 e3 e4
  have HB := Lib.hid (bel_lit (Below.refl w.heap.size w) (.cells #[.string ⟨g.rel.toArray⟩, .slice tA g.args.length tc] 25))
  have HC := Lib.hid (compare_any f g sA tA sc tc (w.alloc (.cells #[.string ⟨g.rel.toArray⟩, .slice tA g.args.length tc] 25)) ((hf.row.below (Nat.le_refl _) HB.out).wide HB.out.size) ((hg.row.below (Nat.le_refl _) HB.out).wide HB.out.size) hf.few hg.few)
  have HD : Hid (isF f g = decide (cmpF f g = 0)) := Lib.hid rfl
  have hbx := World.block_lt_of_cell? w _ h0
  simp only at hbx
  simp only [factV] at HC
  generalize isF f g = q at *
  generalize cmpF f g = k at *
  clear hf hg
  go_enter Tryz.func31, Tryz.ntmps31
  go_wp2_with fail
  refine HC.out.mono ?_
  rintro e w1 ⟨rfl, hb1⟩
  have HN := Lib.hid (bel_next HB.out hb1)
  clear hb1
  by_cases hk : k = 0
  · have fk : (k != 0) = false := by simp [hk]
    go_wp2
    go_ret
    exact ⟨ret_bool (by rw [HD.out]; simp [hk]), HN.out⟩
  · have fk : (k != 0) = true := by simp [hk]
    go_wp2
    go_ret
    exact ⟨ret_bool (by rw [HD.out]; simp [hk]), HN.out⟩
def keepE {w0 : World} (f : GFact) (es : List (Elem w0)) : List (Elem w0) := es.filter fun x => !isF f x.fact
theorem keepE_step {w0 : World} {f : GFact} {es : List (Elem w0)} {k : Nat} (h : k < es.length) : keepE f (es.take (k + 1)) = if isF f es[k].fact then keepE f (es.take k) else keepE f (es.take k) ++ [es[k]] := by
  unfold keepE
  rw [List.take_succ_eq_append_getElem h, List.filter_append]
  cases hq : isF f es[k].fact
  · simp [hq]
  · simp [hq]
theorem keepE_len {w0 : World} (f : GFact) (es : List (Elem w0)) : (keepE f es).length ≤ es.length := List.length_filter_le _ _
def SelEnd {w0 : World} (f : GFact) (es : List (Elem w0)) (e : Ending) (w' : World) : Prop := ∃ v, e = .returned v ∧ OwnG Elem.enc 25 2 w' w0.heap.size v (keepE f es) ∧ Below w0.heap.size w0 w'
set_option maxRecDepth 50000 in
set_option maxHeartbeats 1000000 in
theorem selectedR_any {w0 : World} (va : Value) (es : List (Elem w0)) (f : GFact) (s : SFact) (bx : Nat) (hva : RowV w0 va (es.map Elem.sf)) (hx : w0.heap[bx]? = some (.cells #[.string ⟨s.rel.toArray⟩, .slice s.A s.n s.c] 25 (0, 0))) (hf : FHold w0 w0.heap.size s f) (hn : es.length ≤ 1000000) :
    Calls Tryz.prog 30 #[va, .func (.func 31) #[] #[.pointer (some ⟨bx, 0, none⟩)]] w0 (SelEnd f es) := by
  have hbx : bx < w0.heap.size := by
    rcases Nat.lt_or_ge bx w0.heap.size with h1 | h1
    · exact h1
    · rw [Array.getElem?_eq_none h1] at hx; cases hx
  obtain ⟨A, c, rfl, hrow⟩ : ∃ A c, va = .slice A es.length c ∧ GRow SFact.cells 2 w0 w0.heap.size A (es.map Elem.sf) := by
    rcases hva with ⟨rfl, h⟩ | ⟨ad, c, rfl, h⟩
    · have : es = [] := by cases es with | nil => rfl | cons x r => simp at h
      subst this
      exact ⟨none, 0, rfl, GRow.nil⟩
    · exact ⟨some ad, c, by rw [List.length_map], h⟩
  have HR := Lib.hid hrow
  have HX := Lib.hid hx
  have HF := Lib.hid hf
  clear hva hrow hx hf
  go_enter Tryz.func30, Tryz.ntmps30
  go_wp2
  go_loopw [5, 10] (fun vl vi wr => ∃ k : Nat, vi = .int .i64 k ∧ k ≤ es.length ∧ Hid (OwnG Elem.enc 25 2 wr w0.heap.size vl (keepE f (es.take k))) ∧ Hid (Below w0.heap.size w0 wr)) (fun _ vi _ => es.length - (intOf vi).toNat)
  case atStart => exact ⟨0, rfl, Nat.zero_le _, Lib.hid (OwnG.nil _ _), Lib.hid (Below.refl _ _)⟩
  case round =>
    obtain ⟨k, rfl, hk, HOl, HBr⟩ := hrel
    rcases Nat.lt_or_ge k es.length with hlt | hge
    · have hlm : k < (es.map Elem.sf).length := by rw [List.length_map]; exact hlt
      obtain ⟨b1, o1, rfl, hb1, x0, x1⟩ := (HR.out.below (Nat.le_refl _) HBr.out).fact2 hlm
      have hem : (es.map Elem.sf)[k] = es[k].sf := by simp
      rw [hem] at x0 x1
      have HKS := Lib.hid (keepE_step (f := f) hlt)
      have hkl := keepE_len f (es.take k)
      rw [List.length_take] at hkl
      obtain ⟨Al, cl, rfl, hll, hml, _⟩ := HOl.out.row Elem.len
      have hzb : b1 < wr.heap.size := by have := HBr.out.size; omega
      have hbl := bel_lit (Below.refl wr.heap.size wr) (.cells #[.string ⟨es[k].sf.rel.toArray⟩, .slice es[k].sf.A es[k].sf.n es[k].sf.c] 25)
      have hB2 := bel_next HBr.out hbl
      have hx2 := (hB2.block bx hbx).trans HX.out
      have HC := Lib.hid (removeC_any f es[k].fact s es[k].sf bx _ (by rw [Lib.cell_of_heap hx2]; rfl) (by rw [Lib.cell_of_heap hx2]; rfl) (HF.out.next (Nat.le_refl _) hB2) (es[k].hold hB2))
      have HB2 := Lib.hid hB2
      have HAP := Lib.hid fun (W : World) (hW : Below wr.heap.size wr W) => OwnG.app elt_fact Elem.len Elem.one ((HOl.out.next hW).alloc (.cells #[.string ⟨es[k].sf.rel.toArray⟩, .slice es[k].sf.A es[k].sf.n es[k].sf.c] 25)) 1 (GRow.lit Elem.len W 25 [es[k]] #[.string ⟨es[k].sf.rel.toArray⟩, .slice es[k].sf.A es[k].sf.n es[k].sf.c] rfl (by unfold maxLen; simp)) (by have h1 := hW.size; have h2 := HBr.out.size; simp; omega) (by unfold maxLen; simp; omega) (by simp; omega)
      have HBL := Lib.hid hbl
      clear hem hB2 hx2 hbl
      cases hq : isF f es[k].fact
      · rw [hq] at HC HKS
        rw [if_neg (by simp)] at HKS
        clear hq
        generalize es[k] = x at *
        generalize x.sf = sx at *
        obtain ⟨xr, xA, xn, xc⟩ := sx
        simp only at *
        go_wp2_with fail
        go_fit HC.out
        rintro e w1 ⟨rfl, hb3⟩
        have hk1 : w1.heap[wr.heap.size]? = some (.cells #[.string ⟨xr.toArray⟩, .slice xA xn xc] 25 (0, 0)) := (hb3.block _ (by simp)).trans (heap_alloc_new wr _)
        have y0 : w1.cell? ⟨wr.heap.size, 0, none⟩ = some (.string ⟨xr.toArray⟩) := by rw [Lib.cell_of_heap hk1]; rfl
        have y1 : w1.cell? ⟨wr.heap.size, 1, none⟩ = some (.slice xA xn xc) := by rw [Lib.cell_of_heap hk1]; rfl
        obtain ⟨v8, w8, hrun8, hown8, hgr8, _⟩ := HAP.out w1 (bel_next HBL.out hb3)
        have HB3 := Lib.hid (bel_next HB2.out hb3)
        have HB8 := Lib.hid ((bel_lit HB3.out _).grown hgr8 (by have := HB3.out.size; simp; omega) (fun g hg => (HOl.out.lt g hg).1))
        have HO8 : Hid (OwnG Elem.enc 25 2 w8 w0.heap.size v8 (keepE f (es.take (k + 1)))) := Lib.hid (by rw [HKS.out]; exact hown8)
        obtain ⟨A8, c8, rfl, _, _, _⟩ := hown8.row Elem.len
        have HR8 := Lib.hid hrun8
        clear hrun8 hown8 hgr8 hb3 hk1 HAP HC x0 x1
        simp only [List.length_cons, List.length_nil, List.length_append, Nat.zero_add] at HR8
        go_wp2_with (at_builtin; refine wpList_gapp HR8.out rfl rfl rfl rfl rfl ?_)
        go_roundw
        case rel => exact ⟨k + 1, by go_num, by omega, by simpa using HO8, HB8⟩
        case measure => simp [intOf]; omega
      · rw [hq] at HC HKS
        rw [if_pos rfl] at HKS
        clear hq HAP
        generalize es[k] = x at *
        generalize x.sf = sx at *
        obtain ⟨xr, xA, xn, xc⟩ := sx
        simp only at *
        go_wp2_with fail
        go_fit HC.out
        rintro e w1 ⟨rfl, hb3⟩
        have HB3 := Lib.hid (bel_next HB2.out hb3)
        have HO3 : Hid (OwnG Elem.enc 25 2 w1 w0.heap.size (.slice Al (keepE f (es.take k)).length cl) (keepE f (es.take (k + 1)))) := Lib.hid (by rw [HKS.out]; exact HOl.out.next (bel_next HBL.out hb3))
        clear hb3 HC x0 x1
        go_wp2
        go_roundw
        case rel => exact ⟨k + 1, by go_num, by omega, HO3, HB3⟩
        case measure => simp [intOf]; omega
    · have HKE : Hid (keepE f (es.take k) = keepE f es) := Lib.hid (by rw [List.take_of_length_le hge])
      go_wp2
      go_ret
      refine ⟨_, rfl, ?_, HBr.out⟩
      rw [← HKE.out]
      exact HOl.out
end Go.Proofs.YtolkceibbefhfaaGreatDoor


namespace Go.Proofs.YtolkceibbefhfaaGreatDoor
open Go.RowKit Go.Shelf

def RemoveEnd (fa : List GFact) (f : GFact) (w : World) (e : Ending) (w' : World) : Prop :=
  ∃ v, ∃ ss : List SFact, ∃ fs : List GFact, e = .returned (.tuple #[v, .bool (fa.any (isF f))]) ∧ OwnG SFact.cells 25 2 w' w.heap.size v ss ∧ SetV w' v ss fs ∧ StrictF fs ∧ (∀ g, g ∈ fs ↔ g ∈ fa ∧ g ≠ f) ∧ fs.length ≤ fa.length ∧ Below w.heap.size w w'
theorem isF_iff (f g : GFact) : isF f g = true ↔ f = g := by
  unfold isF
  rw [decide_eq_true_eq]
  exact ord_fact.z f g
theorem keepE_any {w0 : World} (f : GFact) (es : List (Elem w0)) : decide ((keepE f es).length < es.length) = (es.map Elem.fact).any (isF f) := by
  induction es with
  | nil => rfl
  | cons x r ih =>
    have hl := keepE_len f r
    have e : keepE f (x :: r) = if isF f x.fact then keepE f r else x :: keepE f r := by
      unfold keepE
      rw [List.filter_cons]
      cases isF f x.fact <;> rfl
    rw [e, List.map_cons, List.any_cons, ← ih]
    cases hq : isF f x.fact
    · simp
    · simp; omega
theorem keepE_mem {w0 : World} (f : GFact) (es : List (Elem w0)) (g : GFact) : g ∈ (keepE f es).map Elem.fact ↔ g ∈ es.map Elem.fact ∧ g ≠ f := by
  rw [List.mem_map, List.mem_map]
  constructor
  · rintro ⟨x, hx, rfl⟩
    have h := List.mem_filter.1 hx
    refine ⟨⟨x, h.1, rfl⟩, fun e => ?_⟩
    have h2 := h.2
    rw [(isF_iff f x.fact).2 e.symm] at h2
    cases h2
  · rintro ⟨⟨x, hx, rfl⟩, hne⟩
    refine ⟨x, List.mem_filter.2 ⟨hx, ?_⟩, rfl⟩
    cases hq : isF f x.fact
    · rfl
    · exact absurd ((isF_iff f x.fact).1 hq).symm hne
set_option maxRecDepth 50000 in
set_option maxHeartbeats 1000000 in
theorem remove_any (va : Value) (sa : List SFact) (fa : List GFact) (s : SFact) (f : GFact) (w : World) (ha : SetV w va sa fa) (hf : FHold w w.heap.size s f) (hn : fa.length ≤ 1000000) (hargs : ∀ g ∈ fa, g.args.length ≤ 1000000) :
    Calls Tryz.prog 11 #[va, .agg #[.string ⟨s.rel.toArray⟩, .slice s.A s.n s.c]] w (RemoveEnd fa f w) := by
  have hb0 := bel_lit (Below.refl w.heap.size w) (.cells #[.string ⟨s.rel.toArray⟩, .slice s.A s.n s.c] 25)
  have ha0 := ha.next hb0
  obtain ⟨es, e1, e2⟩ := elems_of sa fa ha0.len ha0.each
  have hle : es.length = fa.length := by rw [← e2, List.length_map]
  have HSL := Lib.hid (selectedR_any va es f s w.heap.size (by rw [e1]; exact ha0.row) (heap_alloc_new w _) (hf.next (Nat.le_refl _) hb0) (by omega))
  have HB0 := Lib.hid hb0
  have HE2 := Lib.hid e2
  have HAR := Lib.hid hargs
  obtain ⟨A0, c0, rfl⟩ : ∃ A c, va = .slice A es.length c := by
    rcases ha.row with ⟨rfl, h⟩ | ⟨ad, c, rfl, _⟩
    · have : es.length = 0 := by rw [hle, ← ha.len, h]; rfl
      exact ⟨none, 0, by rw [this]⟩
    · exact ⟨some ad, c, by rw [ha.len, hle]⟩
  have HAN := Lib.hid (keepE_any f es)
  have HLE := Lib.hid hle
  have hne : es.length ≤ 1000000 := by omega
  have hkl := keepE_len f es
  have hws : (w.alloc (.cells #[.string ⟨s.rel.toArray⟩, .slice s.A s.n s.c] 25)).heap.size = w.heap.size + 1 := by simp
  clear ha hf hb0 ha0 e1 e2 hargs hle
  obtain ⟨sr, sA, sn, sc⟩ := s
  simp only at *
  have hmf : ∀ (fn : Fn) (first cap : Array Value) (w : World), (Instr.makeFunc fn first cap).run Tryz.prog w = .ok (.func fn first cap) w := fun _ _ _ _ => rfl
  go_enter Tryz.func11, Tryz.ntmps11
  go_wp2_with fail
  go_fit HSL.out
  rintro e w1 ⟨v1, rfl, ho1, hb1⟩
  have hos := own_sf ho1
  have hset : SetV w1 v1 ((keepE f es).map Elem.sf) ((keepE f es).map Elem.fact) := ⟨hos.rowV, by simp, fun i h1 h2 => by
    have := (keepE f es)[i]'(by simpa using h1) |>.hold hb1
    simpa using this⟩
  have HSO := Lib.hid (setOf_facts v1 _ _ w1 hset (by rw [List.length_map]; omega) (fun g hg => HAR.out g (by have := ((keepE_mem f es g).1 hg).1; rw [HE2.out] at this; exact this)))
  obtain ⟨A1, c1, rfl, _, _, _⟩ := ho1.row Elem.len
  have HB1 := Lib.hid (bel_next HB0.out hb1)
  clear ho1 hos hset hb1 HSL
  go_wp2_with fail
  go_fit HSO.out
  rintro e w2 ⟨v, ss, fs, rfl, h1, h2, h3, h4, h5, h6⟩
  have hs1 := HB1.out.size
  have HE := Lib.hid (show RemoveEnd fa f w (.returned (.tuple #[v, .bool (decide ((keepE f es).length < es.length))])) w2 from ⟨v, ss, fs, by rw [HAN.out, HE2.out], h1.base hs1, h2, h3, fun g => by rw [h4 g, ← HE2.out]; simpa using keepE_mem f es g, by have := HLE.out; simp at h5; omega, bel_next HB1.out h6⟩)
  clear h1 h2 h3 h4 h5 h6 HSO
  go_wp2
  go_ret2
  simpa using HE.out
end Go.Proofs.YtolkceibbefhfaaGreatDoor
