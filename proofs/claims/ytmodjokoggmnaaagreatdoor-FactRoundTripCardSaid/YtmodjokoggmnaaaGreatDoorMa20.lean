/-
  facts.union: the set of two lists, in new memory: the walk.
  Conditions: the lists have at most 1000000 facts together, each fact at most 1000000 arguments.
  facts.union and facts.setOf in terms of plain facts.
  Conditions: the lists have at most 1000000 facts together, each fact at most 1000000 arguments.
  The reference's comparisons of numbers, strings and values.
  Conditions: kinds are ints of the language.
-/
import Derived.Test.YtmodjokoggmnaaaGreatDoorMa19
import Derived.Test.YtmodjokoggmnaaaGreatDoorMa9
import Derived.Laws.Cover1
import Derived.Deep.DeepFit
namespace Go.Proofs.YtmodjokoggmnaaaGreatDoor

open Go.RowKit Go.Shelf

theorem own_sf {w0 w : World} {base : Nat} {v : Value} {es : List (Elem w0)} (h : OwnG Elem.enc 37 2 w base v es) : OwnG SFact.cells 37 2 w base v (es.map Elem.sf) := by
  have e : gcells Elem.enc es = gcells SFact.cells (es.map Elem.sf) := by
    unfold gcells
    rw [List.flatMap_map]
    rfl
  unfold OwnG at *
  rw [← e, List.length_map]
  exact h
theorem own_frz {α : Type} {enc : α → List Value} {T : TypeId} {m : Nat} {w : World} {base g cap n : Nat} {es : List α} (h : OwnG enc T m w base (.slice (some ⟨g, 0, none⟩) n cap) es) (j : Nat) : w.frozen? ⟨g, j, none⟩ = false := by
  rcases h.2 with ⟨hv, _⟩ | ⟨g', cap', cur, hv, _, hh, _⟩
  · cases hv
  · cases hv; exact Lib.frozen_of_heap hh j
set_option maxRecDepth 50000 in
set_option maxHeartbeats 1000000 in
theorem union_any {w0 : World} (va vb : Value) (ea eb : List (Elem w0)) (hva : RowV w0 va (ea.map Elem.sf)) (hvb : RowV w0 vb (eb.map Elem.sf)) (hn : ea.length + eb.length ≤ 1000000) (hargs : ∀ x ∈ ea ++ eb, x.fact.args.length ≤ 1000000) :
    Calls Tryz.prog 54 #[va, vb] w0 (UnionEnd ea eb) := by
  have HM := Lib.hid (merged_any va vb ea eb hva hvb hn)
  clear hva hvb
  go_enter Tryz.func54, Tryz.ntmps54
  go_wp2_with fail
  go_fit HM.out
  rintro e w1 ⟨v1, es, rfl, ho1, hst, hmem, hlen, hb1⟩
  have HEA : Hid (∀ x ∈ es, x.fact.args.length ≤ 1000000) := Lib.hid fun x hx => by
    obtain ⟨z, hz, e⟩ := (hmem x.fact).1 ⟨x, hx, rfl⟩
    rw [← e]; exact hargs z hz
  have HFM : Hid (∀ f, f ∈ es.map Elem.fact ↔ ∃ x ∈ ea ++ eb, x.fact = f) := Lib.hid fun f => by rw [← hmem f, List.mem_map]
  have HST := Lib.hid hst
  have HB1 := Lib.hid hb1
  have HO1 := Lib.hid ho1
  clear hst hmem hb1 hargs
  rcases ho1.2 with ⟨hv, h0⟩ | ⟨g, cap, cur0, hv, _⟩
  · have he : es = [] := List.eq_nil_of_length_eq_zero h0
    subst hv he
    clear ho1
    go_wp2
    go_loopw [13] (fun vi wr => vi = .int .i64 0 ∧ wr = w1) (fun _ _ => 0)
    case atStart => exact ⟨rfl, rfl⟩
    case round =>
      obtain ⟨rfl, rfl⟩ := hrel
      go_wp2
      go_ret
      exact ⟨_, [], [], rfl, OwnG.nil _ _, rfl, fun i h1 => by simp at h1, HST.out, HFM.out, by simp, HB1.out⟩
  · subst hv
    have hg := ho1.lt g rfl
    obtain ⟨A7, c7, e7, hcap, hmax, _⟩ := ho1.row Elem.len
    cases e7
    unfold maxLen at hmax
    have hnes : es.length ≤ 1000000 := by omega
    clear ho1
    go_wp2
    go_loopw [13] (fun vi wr => ∃ (k : Nat) (cur : List SFact), vi = .int .i64 k ∧ k ≤ es.length ∧ Hid (UnI es wr g k cur) ∧ Hid (OwnG SFact.cells 37 2 wr w0.heap.size (.slice (some ⟨g, 0, none⟩) es.length cap) cur) ∧ Hid (Below w0.heap.size w0 wr)) (fun vi _ => es.length - (intOf vi).toNat)
    case atStart => exact ⟨0, es.map Elem.sf, rfl, Nat.zero_le _, Lib.hid ⟨by simp, fun i _ _ h => absurd h (by omega), fun i _ _ _ => by simp⟩, Lib.hid (own_sf HO1.out), HB1⟩
    case round =>
      obtain ⟨k, cur, rfl, hk, HU, HOc, HBr⟩ := hrel
      have hlc := HU.out.len
      rcases Nat.lt_or_ge k es.length with hlt | hge
      · have hkc : k < cur.length := by omega
        obtain ⟨A8, c8, e8, _, _, hr8⟩ := HOc.out.row SFact.len
        have hA8 : A8 = some ⟨g, 0, none⟩ := by injection e8 with e1 _ _; exact e1.symm
        subst hA8
        clear e8
        obtain ⟨b, off, e9, _, x0, x1⟩ := hr8.fact2 hkc
        cases e9
        rw [Nat.zero_add] at x0 x1
        have hold := HU.out.old k hkc hlt (Nat.le_refl _)
        have hH := es[k].hold HBr.out
        have HEL := Lib.hid (HEA.out es[k] (List.getElem_mem hlt))
        have hrel' : cur[k].rel = es[k].fact.rel := by rw [hold]; exact hH.rel
        have hnn : cur[k].n = es[k].fact.args.length := by rw [hold]; exact hH.n
        have hrow : GRow GVal.cells 3 wr wr.heap.size cur[k].A es[k].fact.args := by rw [hold]; exact hH.row
        have HUS := Lib.hid fun W (hU : UnI es W g k cur) s hs => hU.step hlt s hs
        have hgw := (HOc.out.lt g rfl).2
        have HSS := Lib.hid fun (W : World) (hO : OwnG SFact.cells 37 2 W w0.heap.size (.slice (some ⟨g, 0, none⟩) es.length cap) cur) A m c => hO.setSnd hlc hkc A m c
        generalize cur[k] = s at *
        generalize es[k].fact = f at *
        obtain ⟨sr, sA, sn, sc⟩ := s
        obtain ⟨fr, fargs⟩ := f
        simp only at x0 x1 hrel' hnn hrow HEL
        subst hrel' hnn
        have hbl := bel_lit (Below.refl wr.heap.size wr) (.cells #[.string ⟨sr.toArray⟩, .slice sA fargs.length sc] 37)
        have HC := Lib.hid (cloneV_all fargs sA sc (wr.alloc (.cells #[.string ⟨sr.toArray⟩, .slice sA fargs.length sc] 37)) (hrow.next hbl) HEL.out)
        clear hrow hold hH hr8
        have i1 : (0 : Int) ≤ (k : Int) := by omega
        have i2 : (k : Int) < (es.length : Int) := by omega
        go_wp2_with fail
        go_fit HC.out
        rintro e w2 ⟨⟨v2, rfl, hv2⟩, hb2⟩
        obtain ⟨A2, c2, rfl, _, _, hr2⟩ := hv2.row GVal.len
        have hb12 : Below wr.heap.size wr w2 := bel_next hbl hb2
        have y1 := (hb12.cell (p := ⟨g, k * 2 + 1, none⟩) hgw).trans x1
        have f1 := own_frz (HOc.out.next hb12) (k * 2 + 1)
        have hA2 : ∀ b off, A2 = some ⟨b, off, none⟩ → b ≠ g := fun b off e => by
          subst e
          have := (hv2.lt b rfl).1
          simp at this
          omega
        have hnew : FNew w2 g ⟨sr, A2, fargs.length, c2⟩ ⟨sr, fargs⟩ := ⟨⟨rfl, rfl, hr2, by have := HEL.out; show fargs.length ≤ _; omega⟩, hA2⟩
        have HU2 := Lib.hid ((HUS.out w2 (HU.out.move fun s f h => h.next hb12) _ hnew).move fun s f h => h.set (k * 2 + 1) (.slice A2 fargs.length c2))
        have HO2 := Lib.hid (HSS.out w2 (HOc.out.next hb12) A2 fargs.length c2)
        have HB2 := Lib.hid ((bel_next HBr.out hb12).setCell (p := ⟨g, k * 2 + 1, none⟩) hg.1 (.slice A2 fargs.length c2))
        clear hv2 hb2 hb12 hr2 hnew hA2 hbl x0 x1 HUS HSS HC
        go_wp2
        go_roundw
        case rel => exact ⟨k + 1, _, by go_num, by omega, HU2, HO2, HB2⟩
        case measure => simp [intOf]; omega
      · go_wp2
        go_ret
        refine ⟨_, cur, es.map Elem.fact, rfl, ?_, by rw [List.length_map]; exact hlc, fun i h1 h2 => ?_, HST.out, HFM.out, by rw [List.length_map]; omega, HBr.out⟩
        · exact HOc.out
        · have := (HU.out.new i h1 (by simpa using h2) (by omega)).1
          simpa using this
end Go.Proofs.YtmodjokoggmnaaaGreatDoor


namespace Go.Proofs.YtmodjokoggmnaaaGreatDoor

open Go.RowKit Go.Shelf

/-- v is a slice (nil, or not) that holds the facts fs, asx ss. -/
structure SetV (w : World) (v : Value) (ss : List SFact) (fs : List GFact) : Prop where
  row : RowV w v ss
  len : ss.length = fs.length
  each : ∀ i (h1 : i < ss.length) (h2 : i < fs.length), FHold w w.heap.size ss[i] fs[i]
theorem SetV.next {w w' : World} {v : Value} {ss : List SFact} {fs : List GFact} (h : SetV w v ss fs) (hb : Below w.heap.size w w') : SetV w' v ss fs := ⟨h.row.next hb, h.len, fun i h1 h2 => (h.each i h1 h2).next (Nat.le_refl _) hb⟩
theorem SetV.nil (w : World) : SetV w (.slice none 0 0) [] [] := ⟨.inl ⟨rfl, rfl⟩, rfl, fun i h1 => by simp at h1⟩
/-- The set of the facts fa and fb comes back, in memory of the call's own. -/
def SetEnd (fa fb : List GFact) (w : World) (e : Ending) (w' : World) : Prop :=
  ∃ v, ∃ ss : List SFact, ∃ fs : List GFact, e = .returned v ∧ OwnG SFact.cells 37 2 w' w.heap.size v ss ∧ SetV w' v ss fs ∧ StrictF fs ∧ (∀ f, f ∈ fs ↔ f ∈ fa ∨ f ∈ fb) ∧ fs.length ≤ fa.length + fb.length ∧ Below w.heap.size w w'
theorem OwnG.rowV {w : World} {base : Nat} {v : Value} {ss : List SFact} (h : OwnG SFact.cells 37 2 w base v ss) : RowV w v ss := by
  obtain ⟨A, c, rfl, hl, _, hr⟩ := h.row SFact.len
  rcases h.2 with ⟨hv, h0⟩ | ⟨g, cap, cur, hv, _⟩
  · exact .inl ⟨hv, List.eq_nil_of_length_eq_zero h0⟩
  · rw [hv]
    have hA : A = some ⟨g, 0, none⟩ := by injection hv
    subst hA
    exact .inr ⟨_, _, rfl, hr⟩
theorem union_facts (va vb : Value) (sa sb : List SFact) (fa fb : List GFact) (w : World) (ha : SetV w va sa fa) (hb : SetV w vb sb fb) (hn : fa.length + fb.length ≤ 1000000) (hargs : ∀ f, f ∈ fa ∨ f ∈ fb → f.args.length ≤ 1000000) :
    Calls Tryz.prog 54 #[va, vb] w (SetEnd fa fb w) := by
  obtain ⟨ea, e1, e2⟩ := elems_of sa fa ha.len ha.each
  obtain ⟨eb, e3, e4⟩ := elems_of sb fb hb.len hb.each
  have hla : ea.length = fa.length := by rw [← e2, List.length_map]
  have hlb : eb.length = fb.length := by rw [← e4, List.length_map]
  have hm : ∀ f, (∃ x ∈ ea ++ eb, x.fact = f) ↔ f ∈ fa ∨ f ∈ fb := fun f => by
    rw [← e2, ← e4, List.mem_map, List.mem_map]
    constructor
    · rintro ⟨x, hx, h⟩
      rcases List.mem_append.1 hx with hx | hx
      · exact .inl ⟨x, hx, h⟩
      · exact .inr ⟨x, hx, h⟩
    · rintro (⟨x, hx, h⟩ | ⟨x, hx, h⟩)
      · exact ⟨x, List.mem_append.2 (.inl hx), h⟩
      · exact ⟨x, List.mem_append.2 (.inr hx), h⟩
  refine (union_any va vb ea eb (by rw [e1]; exact ha.row) (by rw [e3]; exact hb.row) (by omega) (fun x hx => hargs _ ((hm _).1 ⟨x, hx, rfl⟩))).mono ?_
  rintro e w' ⟨v, ss, fs, rfl, h1, h2, h3, h4, h5, h6, h7⟩
  exact ⟨v, ss, fs, rfl, h1, ⟨h1.rowV, h2, h3⟩, h4, fun f => (h5 f).trans (hm f), by omega, h7⟩
theorem setOf_facts (va : Value) (sa : List SFact) (fa : List GFact) (w : World) (ha : SetV w va sa fa) (hn : fa.length ≤ 1000000) (hargs : ∀ f, f ∈ fa → f.args.length ≤ 1000000) :
    Calls Tryz.prog 23 #[va] w (SetEnd fa [] w) := by
  have HU := Lib.hid (union_facts va (.slice none 0 0) sa [] fa [] w ha (SetV.nil w) (by simpa using hn) (fun f hf => by rcases hf with h | h; exact hargs f h; cases h))
  clear ha
  go_enter Tryz.func23, Tryz.ntmps23
  go_wp2_with fail
  go_fit HU.out
  rintro e w1 ⟨v, ss, fs, rfl, h1, h2, h3, h4, h5, h6⟩
  have HE := Lib.hid (show SetEnd fa [] w (.returned v) w1 from ⟨v, ss, fs, rfl, h1, h2, h3, h4, h5, h6⟩)
  clear h1 h2 h3 h4 h5 h6
  go_wp2
  go_ret
  exact HE.out
end Go.Proofs.YtmodjokoggmnaaaGreatDoor


namespace Go.Proofs.YtmodjokoggmnaaaGreatDoor

open Go.RowKit Go.Shelf

theorem rNumber_any (x y : Int) (w : World) : Calls Tryz.prog 61 #[.int .i64 x, .int .i64 y] w fun e w' => e = .returned (.int .i64 (Lib.compareInt x y)) ∧ w = w' := by
  have HC : Hid (Lib.compareInt x y = if x < y then -1 else if x > y then 1 else 0) := Lib.hid rfl
  go_enter Tryz.func61, Tryz.ntmps61
  go_wp2
  all_goals go_ret
  all_goals refine ⟨ret_int ?_, rfl⟩
  · rw [HC.out, if_pos (by assumption)]
  · rw [HC.out, if_neg (by omega), if_pos (by omega)]
  · rw [HC.out, if_neg (by omega), if_neg (by omega)]
theorem less_cmp : ∀ a b : List UInt8, Op.bytesLess a b = decide (Lib.compareBytes a b < 0)
  | [], [] => by simp [Op.bytesLess, Lib.compareBytes]
  | [], _ :: _ => by simp [Op.bytesLess, Lib.compareBytes]
  | _ :: _, [] => by simp [Op.bytesLess, Lib.compareBytes]
  | a :: ra, b :: rb => by
    unfold Op.bytesLess Lib.compareBytes
    rw [less_cmp ra rb]
    by_cases h1 : a < b
    · simp [h1]
    · by_cases h2 : b < a
      · have h3 : a ≠ b := fun e => h1 (e ▸ h2)
        simp [h1, h2, h3]
      · have e : a = b := UInt8.toNat_inj.1 (by rw [UInt8.lt_iff_toNat_lt] at h1 h2; omega)
        subst e
        simp [h1]
theorem wrap_wf {a : Int} (h : (Lit.int .i64 a).wf = true) : IntKind.i64.wrap a = a := by
  simp [Lit.wf] at h
  have h1 : (-9223372036854775808 : Int) ≤ a := h.1
  have h2 : a ≤ 9223372036854775807 := h.2
  exact IntWalk.i64_in _ (by omega)
theorem rOrder_any (x y : List UInt8) (w : World) : Calls Tryz.prog 60 #[.string ⟨x.toArray⟩, .string ⟨y.toArray⟩] w fun e w' => e = .returned (.int .i64 (Lib.compareBytes x y)) ∧ w = w' := by
  have hr := ord_bytes.r x y
  have hlt : Op.bytesLess x y = decide (Lib.compareBytes x y < 0) := less_cmp x y
  have heq : (x == y) = decide (Lib.compareBytes x y = 0) := by
    by_cases h : x = y
    · subst h
      simp [ord_bytes.self]
    · have : Lib.compareBytes x y ≠ 0 := fun e => h ((ord_bytes.z x y).1 e)
      simp [h, this]
  rcases (by omega : Lib.compareBytes x y = -1 ∨ Lib.compareBytes x y = 0 ∨ Lib.compareBytes x y = 1) with h | h | h
  · have f1 : Op.bytesLess x y = true := by rw [hlt, h]; decide
    rw [h]
    clear hr hlt heq h
    go_enter Tryz.func60, Tryz.ntmps60
    go_wp2
    go_ret
    exact ⟨rfl, rfl⟩
  · have f1 : Op.bytesLess x y = false := by rw [hlt, h]; decide
    have f2 : (x == y) = true := by rw [heq, h]; decide
    have HXY : Hid (x = y) := Lib.hid ((ord_bytes.z x y).1 h)
    rw [h]
    clear hr hlt heq h
    go_enter Tryz.func60, Tryz.ntmps60
    go_wp2
    all_goals go_ret
    all_goals exact ⟨rfl, rfl⟩
  · have f1 : Op.bytesLess x y = false := by rw [hlt, h]; decide
    have f2 : (x == y) = false := by rw [heq, h]; decide
    rw [h]
    clear hr hlt heq h
    go_enter Tryz.func60, Tryz.ntmps60
    go_wp2
    all_goals go_ret
    all_goals exact ⟨rfl, rfl⟩
set_option maxRecDepth 50000 in
set_option maxHeartbeats 1000000 in
theorem rCompareValues_any (a b : GVal) (w : World) (ha : (Lit.int .i64 a.kind).wf = true) (hb : (Lit.int .i64 b.kind).wf = true) :
    Calls Tryz.prog 100 #[a.val, b.val] w fun e w' => e = .returned (.int .i64 (cmpV a b)) ∧ Below w.heap.size w w' := by
  have HE := Lib.hid (cmpV_eq a b)
  have HT : Hid (∀ p q : Int, then3 p q = if p ≠ 0 then p else q) := Lib.hid fun _ _ => rfl
  obtain ⟨ak, ai, aw⟩ := a
  obtain ⟨bk, bi, bw⟩ := b
  have hwa : IntKind.i64.wrap ak = ak := wrap_wf ha
  have hwb : IntKind.i64.wrap bk = bk := wrap_wf hb
  have H1 := Lib.hid (rNumber_any ak bk)
  have H2 := Lib.hid (rNumber_any ai bi)
  have H3 := Lib.hid (rOrder_any aw bw)
  have HB := Lib.hid (bel_lit (bel_lit (Below.refl w.heap.size w) (.cells #[.int .i64 ak, .int .i64 ai, .string ⟨aw.toArray⟩] 40)) (.cells #[.int .i64 bk, .int .i64 bi, .string ⟨bw.toArray⟩] 40))
  simp only [GVal.val] at *
  clear ha hb
  generalize cmpV ⟨ak, ai, aw⟩ ⟨bk, bi, bw⟩ = cf at *
  generalize Lib.compareInt ak bk = c1 at *
  generalize Lib.compareInt ai bi = c2 at *
  generalize Lib.compareBytes aw bw = c3 at *
  go_enter Tryz.func100, Tryz.ntmps100
  go_wp2_with fail
  go_fit (H1.out _)
  rintro e w1 ⟨rfl, rfl⟩
  by_cases h1 : c1 = 0
  · have f1 : (c1 != 0) = false := by simp [h1]
    have HZ := Lib.hid h1
    clear h1
    go_wp2_with fail
    go_fit (H2.out _)
    rintro e w1 ⟨rfl, rfl⟩
    by_cases h2 : c2 = 0
    · have f2 : (c2 != 0) = false := by simp [h2]
      have HZ2 := Lib.hid h2
      clear h2
      go_wp2_with fail
      go_fit (H3.out _)
      rintro e w1 ⟨rfl, rfl⟩
      go_wp2
      go_ret
      exact ⟨ret_int (by rw [HE.out, HT.out, if_neg (by have := HZ.out; omega), HT.out, if_neg (by have := HZ2.out; omega)]), HB.out⟩
    · have f2 : (c2 != 0) = true := by simp [h2]
      go_wp2
      go_ret
      exact ⟨ret_int (by rw [HE.out, HT.out, if_neg (by have := HZ.out; omega), HT.out, if_pos h2]), HB.out⟩
  · have f1 : (c1 != 0) = true := by simp [h1]
    go_wp2
    go_ret
    exact ⟨ret_int (by rw [HE.out, HT.out, if_pos h1]), HB.out⟩
end Go.Proofs.YtmodjokoggmnaaaGreatDoor
