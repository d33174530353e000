/-
  Facts in a row, with what they are; equal neighbours; the closure that merged hands to slices.CompactFunc.
  Conditions: as each theorem says.
  Stores into a row of the call's own: an element anew; the end cleared.
  Conditions: as each theorem says.
  slices.CompactFunc at facts, by the closure that merged hands to it: of equal neighbours the first is kept.
  Conditions: the slice is one of the call's own, of at most 1000000 facts; the facts' arguments lie in memory that the call does not turn.
-/
import Derived.Test.YtmodjokoggmnaaaGreatDoorMa16
import Derived.Test.YtmodjokoggmnaaaGreatDoorMa13
import Derived.Deep.DeepFit
import Derived.Laws.IdiomCopy
import Derived.Lib.SliceRun
import Derived.Deep.DeepCutAuto
namespace Go.Proofs.YtmodjokoggmnaaaGreatDoor

open Go.RowKit Go.Shelf

/-- A fact asx it lies in memory, with what it is; w0: a world in which its arguments lie. -/
def Elem (w0 : World) : Type := { p : SFact × GFact // FHold w0 w0.heap.size p.1 p.2 }
instance (w0 : World) : Inhabited (Elem w0) := ⟨⟨(⟨[], none, 0, 0⟩, ⟨[], []⟩), ⟨rfl, rfl, GRow.nil, by simp⟩⟩⟩
def Elem.sf {w0 : World} (x : Elem w0) : SFact := x.1.1
def Elem.enc {w0 : World} (x : Elem w0) : List Value := x.sf.cells
def Elem.fact {w0 : World} (x : Elem w0) : GFact := x.1.2
def Elem.cf {w0 : World} (x y : Elem w0) : Int := cmpF x.fact y.fact
def Elem.val {w0 : World} (x : Elem w0) : Value := .agg #[.string ⟨x.sf.rel.toArray⟩, .slice x.sf.A x.sf.n x.sf.c]
theorem Elem.len {w0 : World} (x : Elem w0) : x.enc.length = 2 := rfl
theorem Elem.one {w0 : World} (x : Elem w0) : ∀ u ∈ x.enc, u.oneCell' = true := SFact.one x.sf
theorem Elem.hold {w0 w : World} (x : Elem w0) (hb : Below w0.heap.size w0 w) : FHold w w.heap.size x.sf x.fact := x.2.next (Nat.le_refl _) hb
/-- The closure that union hands on. -/
theorem unionE_gr {w0 : World} (x y : Elem w0) (w : World) (hb : Below w0.heap.size w0 w) :
    Calls Tryz.prog 94 #[x.val, y.val] w fun e w' => e = .returned (.int .i64 (Elem.cf x y)) ∧ Gr w w' := by
  have hx := x.hold hb
  have hy := y.hold hb
  have h := unionC_gr x.fact y.fact x.sf.A y.sf.A x.sf.c y.sf.c w hx.row hy.row hx.few hy.few
  unfold Elem.val
  rw [hx.rel, hx.n, hy.rel, hy.n]
  exact h
def eqE {w0 : World} (x y : Elem w0) : Bool := decide (Elem.cf x y = 0)
set_option maxRecDepth 50000 in
set_option maxHeartbeats 1000000 in
theorem mergedC_gr {w0 : World} (x y : Elem w0) (bx : Nat) (w : World) (hb : Below w0.heap.size w0 w) (hx : w.cell? ⟨bx, 0, none⟩ = some (.func (.func 94) #[] #[])) :
    Calls Tryz.prog 124 #[x.val, y.val, .pointer (some ⟨bx, 0, none⟩)] w fun e w' => e = .returned (.bool (eqE x y)) ∧ Gr w w' := by
  have HB := Lib.hid (gr_lit (gr_lit (Gr.refl w) (.cells #[.string ⟨x.sf.rel.toArray⟩, .slice x.sf.A x.sf.n x.sf.c] 37)) (.cells #[.string ⟨y.sf.rel.toArray⟩, .slice y.sf.A y.sf.n y.sf.c] 37))
  have HC := Lib.hid (unionE_gr x y _ (bel_next hb HB.out.bel))
  have HD : Hid (eqE x y = decide (Elem.cf x y = 0)) := Lib.hid rfl
  have hbx := World.block_lt_of_cell? w _ hx
  simp only at hbx
  unfold Elem.val at *
  generalize eqE x y = q at *
  generalize Elem.cf x y = k at *
  generalize x.sf = s at *
  generalize y.sf = t at *
  obtain ⟨sr, sA, sn, sc⟩ := s
  obtain ⟨tr, tA, tn, tc⟩ := t
  simp only at *
  clear hb
  go_enter Tryz.func124, Tryz.ntmps124
  go_wp2_with fail
  go_fit HC.out
  rintro e w1 ⟨rfl, hb1⟩
  have HN := Lib.hid (gr_next HB.out hb1)
  clear hb1
  by_cases hk : k = 0
  · have fk : (k == 0) = true := by simp [hk]
    go_wp2
    go_ret
    exact ⟨ret_bool (by rw [HD.out]; simp [hk]), HN.out⟩
  · have fk : (k == 0) = false := by simp [hk]
    go_wp2
    go_ret
    exact ⟨ret_bool (by rw [HD.out]; simp [hk]), HN.out⟩

/-- Of equal neighbours the first is kept. -/
def compFrom {w0 : World} : Elem w0 → List (Elem w0) → List (Elem w0)
  | _, [] => []
  | p, y :: r => if eqE y p then compFrom y r else y :: compFrom y r
def compE {w0 : World} : List (Elem w0) → List (Elem w0)
  | [] => []
  | x :: r => x :: compFrom x r
theorem compFrom_snoc {w0 : World} : ∀ (r : List (Elem w0)) (p q y : Elem w0), (p :: r).getLast? = some q → compFrom p (r ++ [y]) = compFrom p r ++ if eqE y q then [] else [y]
  | [], p, q, y, h => by
    simp at h
    subst h
    simp only [List.nil_append, compFrom]
  | z :: r, p, q, y, h => by
    have h' : (z :: r).getLast? = some q := by simpa [List.getLast?_cons_cons] using h
    have ih := compFrom_snoc r z q y h'
    show (if eqE z p then compFrom z (r ++ [y]) else z :: compFrom z (r ++ [y])) = (if eqE z p then compFrom z r else z :: compFrom z r) ++ _
    rw [ih]
    by_cases e : eqE z p = true
    · rw [if_pos e, if_pos e]
    · rw [if_neg e, if_neg e]; rfl
theorem compE_step {w0 : World} {es : List (Elem w0)} {k : Nat} (h0 : 1 ≤ k) (h : k < es.length) :
    compE (es.take (k + 1)) = if eqE es[k] (es[k - 1]'(by omega)) then compE (es.take k) else compE (es.take k) ++ [es[k]] := by
  rw [List.take_succ_eq_append_getElem h]
  cases es with
  | nil => simp at h
  | cons x r =>
    obtain ⟨m, rfl⟩ : ∃ m, k = m + 1 := ⟨k - 1, by omega⟩
    have hm : m < r.length := by simpa using h
    simp only [List.take_succ_cons, List.cons_append]
    have hl : (x :: r.take m).getLast? = some ((x :: r)[m]'(by simp; omega)) := by
      rw [List.getLast?_eq_getElem?]
      have e : (x :: r.take m).length - 1 = m := by simp; omega
      rw [e, ← List.take_succ_cons, List.getElem?_take_of_lt (by omega), List.getElem?_eq_getElem]
    show x :: compFrom x (r.take m ++ [_]) = _
    rw [compFrom_snoc _ _ _ _ hl]
    simp only [Nat.add_sub_cancel]
    by_cases e : eqE (x :: r)[m + 1] ((x :: r)[m]'(by simp; omega)) = true
    · rw [if_pos e, if_pos e]; simp [compE]
    · rw [if_neg e, if_neg e]; simp [compE]
theorem compE_one {w0 : World} {es : List (Elem w0)} (h : 1 ≤ es.length) : compE (es.take 1) = es.take 1 := by
  cases es with
  | nil => simp at h
  | cons x r => simp [compE, compFrom]
/-- Ascending elements without equal neighbours ascend strictly; no fact is lost. -/
theorem compFrom_mem {w0 : World} : ∀ (r : List (Elem w0)) (p : Elem w0) (f : GFact), (f = p.fact ∨ ∃ x ∈ compFrom p r, x.fact = f) ↔ (f = p.fact ∨ ∃ x ∈ r, x.fact = f)
  | [], p, f => by simp [compFrom]
  | y :: r, p, f => by
    have ih := compFrom_mem r y f
    unfold compFrom
    by_cases e : eqE y p = true
    · rw [if_pos e]
      have hyp : y.fact = p.fact := (ord_fact.z _ _).1 (of_decide_eq_true e)
      rw [← hyp, ih]
      constructor
      · rintro (h | ⟨x, hx, h⟩)
        · exact .inl h
        · exact .inr ⟨x, List.mem_cons_of_mem _ hx, h⟩
      · rintro (h | ⟨x, hx, h⟩)
        · exact .inl h
        · rcases List.mem_cons.1 hx with rfl | hx
          · exact .inl h.symm
          · exact .inr ⟨x, hx, h⟩
    · rw [if_neg e]
      constructor
      · rintro (h | ⟨x, hx, h⟩)
        · exact .inl h
        · rcases List.mem_cons.1 hx with rfl | hx
          · exact .inr ⟨x, List.mem_cons_self, h⟩
          · rcases ih.1 (.inr ⟨x, hx, h⟩) with h1 | ⟨z, hz, h1⟩
            · exact .inr ⟨y, List.mem_cons_self, h1.symm⟩
            · exact .inr ⟨z, List.mem_cons_of_mem _ hz, h1⟩
      · rintro (h | ⟨x, hx, h⟩)
        · exact .inl h
        · rcases List.mem_cons.1 hx with rfl | hx
          · exact .inr ⟨x, List.mem_cons_self, h⟩
          · rcases ih.2 (.inr ⟨x, hx, h⟩) with h1 | ⟨z, hz, h1⟩
            · exact .inr ⟨y, List.mem_cons_self, h1.symm⟩
            · exact .inr ⟨z, List.mem_cons_of_mem _ hz, h1⟩
theorem compE_mem {w0 : World} (es : List (Elem w0)) (f : GFact) : (∃ x ∈ compE es, x.fact = f) ↔ ∃ x ∈ es, x.fact = f := by
  cases es with
  | nil => simp [compE]
  | cons p r =>
    have := compFrom_mem r p f
    simp only [compE, List.mem_cons, exists_eq_or_imp]
    rw [eq_comm (a := p.fact)]
    exact this
def SortedE {w0 : World} (es : List (Elem w0)) : Prop := es.Pairwise fun x y => Elem.cf x y ≤ 0
def StrictF (fs : List GFact) : Prop := fs.Pairwise fun x y => cmpF x y < 0
theorem compFrom_strict {w0 : World} : ∀ (r : List (Elem w0)) (p : Elem w0), SortedE (p :: r) → StrictF (p.fact :: (compFrom p r).map Elem.fact)
  | [], p, _ => by simp [compFrom, StrictF]
  | y :: r, p, h => by
    have h1 := List.pairwise_cons.1 h
    have ih := compFrom_strict r y h1.2
    have ih1 := List.pairwise_cons.1 ih
    unfold compFrom
    by_cases e : eqE y p = true
    · rw [if_pos e]
      have hyp : y.fact = p.fact := (ord_fact.z _ _).1 (of_decide_eq_true e)
      rw [← hyp]; exact ih
    · rw [if_neg e]
      have hle := h1.1 y List.mem_cons_self
      have hlt : cmpF p.fact y.fact < 0 := by
        have hn : ¬ cmpF y.fact p.fact = 0 := fun hc => e (decide_eq_true hc)
        have := ord_fact.n p.fact y.fact
        have hle' : cmpF p.fact y.fact ≤ 0 := hle
        omega
      rw [List.map_cons]
      refine List.pairwise_cons.2 ⟨fun z hz => ?_, ih⟩
      rcases List.mem_cons.1 hz with rfl | hz
      · exact hlt
      · exact ord_fact.t _ _ _ hlt (ih1.1 z hz)
theorem compE_strict {w0 : World} {es : List (Elem w0)} (h : SortedE es) : StrictF ((compE es).map Elem.fact) := by
  cases es with
  | nil => simp [compE, StrictF]
  | cons p r => exact compFrom_strict r p h
theorem compE_len {w0 : World} : ∀ (es : List (Elem w0)), (compE es).length ≤ es.length := by
  have key : ∀ (r : List (Elem w0)) (p : Elem w0), (compFrom p r).length ≤ r.length := by
    intro r
    induction r with
    | nil => intro p; simp [compFrom]
    | cons y r ih =>
      intro p
      unfold compFrom
      split
      · have := ih y; simp; omega
      · have := ih y; simp; omega
  intro es
  cases es with
  | nil => simp [compE]
  | cons p r => have := key r p; simp [compE]; omega
end Go.Proofs.YtmodjokoggmnaaaGreatDoor


namespace Go.Proofs.YtmodjokoggmnaaaGreatDoor

open Go.RowKit Go.Shelf

section

variable {α : Type} {enc : α → List Value} {T : TypeId} {k : Nat}

theorem set_heap {w : World} {g t : Nat} {v : Value} {cur : Array Value} (hh : w.heap[g]? = some (.cells cur T (0, 0))) : (w.setCell ⟨g, t, none⟩ v).heap[g]? = some (.cells (cur.set! t v) T (0, 0)) := by
  simp [World.setCell, Array.getElem?_modify, hh]
theorem sets_heap {g : Nat} : ∀ (vs : List Value) (o : Nat) (w : World) (cur : Array Value), w.heap[g]? = some (.cells cur T (0, 0)) → ∃ cur', (w.setCells g o vs).heap[g]? = some (.cells cur' T (0, 0)) ∧ cur'.size = cur.size ∧ ∀ t, t < o → cur'[t]? = cur[t]?
  | [], o, w, cur, h => ⟨cur, h, rfl, fun _ _ => rfl⟩
  | v :: r, o, w, cur, h => by
    obtain ⟨cur', h1, h2, h3⟩ := sets_heap r (o + 1) (w.setCell ⟨g, o, none⟩ v) (cur.set! o v) (set_heap h)
    refine ⟨cur', h1, by rw [h2]; simp, fun t ht => ?_⟩
    rw [h3 t (by omega)]
    simp [Array.getElem?_setIfInBounds]
    omega
theorem gcells_set (hk : ∀ x, (enc x).length = 2) (l : List α) (i : Nat) (hi : i < l.length) (x : α) (a b : Value) (he : enc x = [a, b]) : ((gcells enc l).set (i * 2) a).set (i * 2 + 1) b = gcells enc (l.set i x) := by
  induction l generalizing i with
  | nil => simp at hi
  | cons y r ih =>
    obtain ⟨u, v, hy⟩ : ∃ u v, enc y = [u, v] := by
      have := hk y
      match h : enc y, this with
      | [u, v], _ => exact ⟨u, v, rfl⟩
    have e : gcells enc (y :: r) = u :: v :: gcells enc r := by show enc y ++ gcells enc r = _; rw [hy]; rfl
    cases i with
    | zero =>
      have e2 : gcells enc (x :: r) = a :: b :: gcells enc r := by show enc x ++ gcells enc r = _; rw [he]; rfl
      show (((gcells enc (y :: r)).set (0 * 2) a).set (0 * 2 + 1) b) = gcells enc (x :: r)
      rw [e, e2]; rfl
    | succ i =>
      have e2 : gcells enc (y :: r.set i x) = u :: v :: gcells enc (r.set i x) := by show enc y ++ gcells enc _ = _; rw [hy]; rfl
      rw [List.set_cons_succ, e, e2, ← ih i (by simpa using hi), show (i + 1) * 2 = i * 2 + 1 + 1 by omega]
      rfl
theorem take_set (l : List Value) (n t : Nat) (v : Value) : (l.set t v).take n = (l.take n).set t v := by
  refine List.ext_getElem? fun j => ?_
  rw [List.getElem?_set, List.getElem?_take, List.getElem?_take, List.getElem?_set, List.length_take]
  by_cases hj : j < n
  · simp only [hj, if_true]
    by_cases ht : t = j
    · subst ht
      by_cases hl : t < l.length
      · simp [hl]; omega
      · simp [hl]; omega
    · simp [ht]
  · simp only [hj, if_false]
    by_cases ht : t = j
    · subst ht; simp; omega
    · simp [ht]
/-- An element is stored anew. -/
theorem OwnG.setElem (hk : ∀ x, (enc x).length = 2) {w : World} {base g cap n : Nat} {l : List α} (h : OwnG enc T 2 w base (.slice (some ⟨g, 0, none⟩) n cap) l) (hn : l.length = n) {i : Nat} (hi : i < l.length) (x : α) {a b : Value} (he : enc x = [a, b]) :
    OwnG enc T 2 ((w.setCell ⟨g, i * 2, none⟩ a).setCell ⟨g, i * 2 + 1, none⟩ b) base (.slice (some ⟨g, 0, none⟩) n cap) (l.set i x) := by
  refine ⟨gcells_len hk _, ?_⟩
  rcases h.2 with ⟨hh, _⟩ | ⟨g', cap', cur, e, hb, hh, hn', hm, hs, ht⟩
  · cases hh
  · cases e
    refine .inr ⟨g, cap, _, by rw [List.length_set], hb, set_heap (set_heap hh), by rw [List.length_set]; exact hn', hm, by simp [hs], ?_⟩
    rw [List.length_set, ← gcells_set hk l i hi x a b he, ← ht]
    simp [take_set]
/-- The end of the row is turned and left out. -/
theorem OwnG.cut (hk : ∀ x, (enc x).length = 2) {w : World} {base g cap n : Nat} {l : List α} (h : OwnG enc T 2 w base (.slice (some ⟨g, 0, none⟩) n cap) l) (hn : l.length = n) {i : Nat} (hi : i ≤ l.length) (vs : List Value) :
    OwnG enc T 2 (w.setCells g (i * 2) vs) base (.slice (some ⟨g, 0, none⟩) i cap) (l.take i) := by
  have hlt : (l.take i).length = i := by rw [List.length_take]; omega
  refine ⟨gcells_len hk _, ?_⟩
  rcases h.2 with ⟨hh, _⟩ | ⟨g', cap', cur, e, hb, hh, hn', hm, hs, ht⟩
  · cases hh
  · cases e
    obtain ⟨cur', h1, h2, h3⟩ := sets_heap vs (i * 2) w cur hh
    refine .inr ⟨g, cap, cur', by rw [hlt], hb, h1, by omega, hm, by omega, ?_⟩
    rw [hlt]
    have e1 : cur'.toList.take (i * 2) = cur.toList.take (i * 2) := by
      refine List.ext_getElem? fun t => ?_
      rw [List.getElem?_take, List.getElem?_take]
      by_cases hti : t < i * 2
      · simp only [hti, if_true]
        simpa using h3 t hti
      · simp [hti]
    have e2 : gcells enc (l.take i) = (gcells enc l).take (i * 2) := by
      conv => rhs; rw [← List.take_append_drop i l, gcells_append]
      have hg := gcells_len hk (l.take i)
      rw [hlt] at hg
      rw [← hg, List.take_left']
      rfl
    rw [e1, e2, ← ht, List.take_take]
    congr 1
    omega
end

def zerosF (n : Nat) : List Value := (Builtin.zeroCells #[.string ⟨#[]⟩, .slice none 0 0] n).toList
/-- clear of a slice of n facts. -/
theorem run_clearF (w : World) (b o n c : Nat) (hn : 0 < n) (hc : ∀ j, j < n * 2 → (w.cell? ⟨b, o + j, none⟩).isSome = true) (hf : ∀ j, j < n * 2 → w.frozen? ⟨b, o + j, none⟩ = false) (ty : TypeId) :
    (Builtin.clear_ #[22] ty #[.slice (some ⟨b, o, none⟩) n c]).run Tryz.prog w = .ok (.tuple #[]) (w.setCells b o (zerosF n)) := by
  have hl : (Builtin.zeroCells #[.string ⟨#[]⟩, .slice none 0 0] n).toList.length = n * 2 := by simp [Builtin.zeroCells]
  have hst := run_storeCells_cells (P := Tryz.prog) b o (Builtin.zeroCells #[.string ⟨#[]⟩, .slice none 0 0] n).toList 0 w (by rw [hl]; simpa using hc) (by rw [hl]; simpa using hf) (by
    intro v hv
    simp [Builtin.zeroCells] at hv
    obtain ⟨i, _, rfl⟩ := hv
    rcases (by omega : i % 2 = 0 ∨ i % 2 = 1) with h | h <;> rw [h] <;> rfl)
  simp only [Nat.add_zero] at hst
  obtain ⟨m, rfl⟩ : ∃ m, n = m + 1 := ⟨n - 1, by omega⟩
  simp [Builtin.clear_, run_underlying Tryz.underlying22, Value.cells, hst, zerosF]
theorem gb_cell {w w1 : World} {g : Nat} (h : w.grownBy w1 (some g)) (j : Nat) (v : Value) : w.grownBy (w1.setCell ⟨g, j, none⟩ v) (some g) :=
  ⟨h.os, h.tape, h.output, by have := h.size; simp; omega, fun b hb hne => (Below.heap_setCell _ _ _ b (fun e => hne (by rw [e]))).trans (h.block b hb hne)⟩
theorem gb_cells {w : World} {g : Nat} : ∀ (vs : List Value) (o : Nat) (w1 : World), w.grownBy w1 (some g) → w.grownBy (w1.setCells g o vs) (some g)
  | [], _, _, h => h
  | v :: r, o, _, h => gb_cells r (o + 1) _ (gb_cell h o v)
theorem gb_gr {w w1 w2 : World} {q : Option Nat} (h : w.grownBy w1 q) (h2 : Gr w1 w2) : w.grownBy w2 q :=
  ⟨h2.bel.os.trans h.os, h2.bel.tape.trans h.tape, h2.bel.output.trans h.output, Nat.le_trans h.size h2.bel.size, fun b hb hne => (h2.bel.block b (Nat.lt_of_lt_of_le hb h.size)).trans (h.block b hb hne)⟩
end Go.Proofs.YtmodjokoggmnaaaGreatDoor


namespace Go.Proofs.YtmodjokoggmnaaaGreatDoor

open Go.RowKit Go.Shelf

/-- The cells of element i of a row of facts of the call's own. -/
theorem OwnG.elem {w0 w : World} {base g cap n : Nat} {es : List (Elem w0)} (h : OwnG Elem.enc 37 2 w base (.slice (some ⟨g, 0, none⟩) n cap) es) {i : Nat} (hi : i < es.length) :
    w.cell? ⟨g, i * 2, none⟩ = some (.string ⟨es[i].sf.rel.toArray⟩) ∧ w.cell? ⟨g, i * 2 + 1, none⟩ = some (.slice es[i].sf.A es[i].sf.n es[i].sf.c) := by
  obtain ⟨A, c, e, _, _, hr⟩ := h.row Elem.len
  cases e
  obtain ⟨b, off, e, _, hc⟩ := hr (by omega)
  cases e
  have h0 := hc i hi 0 _ rfl
  have h1 := hc i hi 1 _ rfl
  simp only [Nat.zero_add, Nat.add_zero] at h0 h1
  exact ⟨h0, h1⟩
theorem OwnG.gr {α : Type} {enc : α → List Value} {T : TypeId} {k : Nat} {w w' : World} {base : Nat} {v : Value} {l : List α} (h : OwnG enc T k w base v l) (hb : Gr w w') : OwnG enc T k w' base v l := h.next hb.bel
theorem OwnG.frz {w0 w : World} {base g cap n : Nat} {es : List (Elem w0)} (h : OwnG Elem.enc 37 2 w base (.slice (some ⟨g, 0, none⟩) n cap) es) (j : Nat) : w.frozen? ⟨g, j, none⟩ = false := by
  rcases h.2 with ⟨hv, _⟩ | ⟨g', cap', cur, hv, _, hh, _⟩
  · cases hv
  · cases hv; exact Lib.frozen_of_heap hh j
theorem compE_step2 {w0 : World} {es : List (Elem w0)} {k m : Nat} (hkm : m = k - 1) (h0 : 1 ≤ k) (h : k < es.length) (hm : m < es.length) :
    compE (es.take (k + 1)) = if eqE es[k] es[m] then compE (es.take k) else compE (es.take k) ++ [es[k]] := by
  subst hkm
  exact compE_step h0 h
def CompactEnd {w0 : World} (es : List (Elem w0)) (w : World) (g cap : Nat) (e : Ending) (w' : World) : Prop :=
  e = .returned (.slice (some ⟨g, 0, none⟩) (compE es).length cap) ∧ OwnG Elem.enc 37 2 w' w0.heap.size (.slice (some ⟨g, 0, none⟩) (compE es).length cap) (compE es) ∧ w.grownBy w' (some g)
/-- Where the second loop stands: i elements are kept of the first m + 1 + p. -/
structure CompI {w0 : World} (es cur : List (Elem w0)) (i j : Nat) : Prop where
  len : cur.length = es.length
  kept : cur.take i = compE (es.take j)
  cnt : (compE (es.take j)).length = i
  lt : i < j
  rest : ∀ t, j ≤ t + 1 → cur[t]? = es[t]?
theorem CompI.at {w0 : World} {es cur : List (Elem w0)} {i j : Nat} (h : CompI es cur i j) {t : Nat} (ht : j ≤ t + 1) (h1 : t < es.length) : cur[t]'(by rw [h.len]; exact h1) = es[t] := by
  have := h.rest t ht
  rw [List.getElem?_eq_getElem (by rw [h.len]; exact h1), List.getElem?_eq_getElem h1] at this
  exact Option.some.inj this
theorem CompI.skip2 {w0 : World} {es cur : List (Elem w0)} {i j m : Nat} (h : CompI es cur i j) (hm : m = j - 1) (h0 : 1 ≤ j) (hj : j < es.length) (hml : m < es.length) (he : eqE es[j] es[m] = true) : CompI es cur i (j + 1) := by
  subst hm
  have hs := compE_step h0 hj
  rw [if_pos he] at hs
  exact ⟨h.len, by rw [hs]; exact h.kept, by rw [hs]; exact h.cnt, by have := h.lt; omega, fun t ht => h.rest t (by omega)⟩
theorem CompI.put2 {w0 : World} {es cur : List (Elem w0)} {i j m : Nat} (h : CompI es cur i j) (hm : m = j - 1) (h0 : 1 ≤ j) (hj : j < es.length) (hml : m < es.length) (he : eqE es[j] es[m] = false) : CompI es (cur.set i es[j]) (i + 1) (j + 1) := by
  subst hm
  have hs := compE_step h0 hj
  rw [if_neg (by rw [he]; simp)] at hs
  have hlt := h.lt
  have hl := h.len
  refine ⟨by rw [List.length_set]; exact hl, ?_, by rw [hs]; simp [h.cnt], by omega, fun t ht => ?_⟩
  · rw [hs, ← h.kept, List.take_succ_eq_append_getElem (by rw [List.length_set]; omega), List.getElem_set_self]
    rw [List.take_set_of_le (by omega)]
  · rw [List.getElem?_set_ne (by omega)]
    exact h.rest t (by omega)
set_option maxRecDepth 50000 in
set_option maxHeartbeats 1000000 in
theorem compactF_any {w0 : World} (es : List (Elem w0)) (bx g cap : Nat) (w : World) (hb : Below w0.heap.size w0 w) (hx : w.cell? ⟨bx, 0, none⟩ = some (.func (.func 94) #[] #[])) (hgx : bx ≠ g) (h : OwnG Elem.enc 37 2 w w0.heap.size (.slice (some ⟨g, 0, none⟩) es.length cap) es) (hn : es.length ≤ 1000000) (h2 : 2 ≤ es.length) :
    Calls Tryz.prog 123 #[.slice (some ⟨g, 0, none⟩) es.length cap, .func (.func 124) #[] #[.pointer (some ⟨bx, 0, none⟩)]] w (CompactEnd es w g cap) := by
  have hg := h.lt g rfl
  have hbw := World.block_lt_of_cell? w _ hx
  simp only at hbw
  obtain ⟨A7, c7, e7, hcap, hmax, _⟩ := h.row Elem.len
  cases e7
  unfold maxLen at hmax
  have HO := Lib.hid h
  have HB := Lib.hid hb
  have HX := Lib.hid hx
  clear h hb hx
  go_enter Tryz.func123, Tryz.ntmps123
  go_wp2
  go_loopw [5] (fun v5 wr => ∃ k : Nat, v5 = .int .i64 k ∧ 1 ≤ k ∧ k ≤ es.length ∧ Hid (compE (es.take k) = es.take k) ∧ Hid (Gr w wr)) (fun v5 _ => es.length - (intOf v5).toNat)
  case atStart => exact ⟨1, rfl, Nat.le_refl _, by omega, Lib.hid (compE_one (by omega)), Lib.hid (Gr.refl _)⟩
  case round =>
    obtain ⟨k, rfl, h1k, hkn, HT, HG⟩ := hrel
    rcases Nat.lt_or_ge k es.length with hlt | hge
    · obtain ⟨m, hkm⟩ : ∃ m : Nat, m = k - 1 := ⟨_, rfl⟩
      have hml : m < es.length := by omega
      have HOr := Lib.hid (HO.out.gr HG.out)
      obtain ⟨x0, x1⟩ := HOr.out.elem hlt
      obtain ⟨y0, y1⟩ := HOr.out.elem hml
      have HST := Lib.hid (compE_step2 hkm h1k hlt hml)
      have i1 : (0 : Int) ≤ (k : Int) := by omega
      have i2 : (k : Int) < (es.length : Int) := by omega
      have i3 : (0 : Int) ≤ (m : Int) := by omega
      have i4 : (m : Int) < (es.length : Int) := by omega
      have i5 : IntKind.i64.wrap ((k : Int) - 1) = (m : Int) := by rw [IntWalk.i64_in _ (by omega)]; omega
      have HKM := Lib.hid hkm
      clear hkm
      have hxr : wr.cell? ⟨bx, 0, none⟩ = some (.func (.func 94) #[] #[]) := (HG.out.bel.cell (p := ⟨bx, 0, none⟩) hbw).trans HX.out
      have HC := Lib.hid fun W (hW : Below wr.heap.size wr W) => mergedC_gr es[k] es[m] bx W (bel_next (bel_next HB.out HG.out.bel) hW) ((hW.cell (p := ⟨bx, 0, none⟩) (World.block_lt_of_cell? wr _ hxr)).trans hxr)
      unfold Elem.val at HC
      have hgr : g < wr.heap.size := by have := HG.out.bel.size; omega
      have HKS : Hid (∀ (W0 : World) (s t : SFact) (o1 o2 : Nat) (W W' : World), (Below W0.heap.size W0 W ∧ W.cell? ⟨g, o1, none⟩ = some (.string ⟨s.rel.toArray⟩) ∧ W.cell? ⟨g, o1 + 1, none⟩ = some (.slice s.A s.n s.c) ∧ W.cell? ⟨g, o2, none⟩ = some (.string ⟨t.rel.toArray⟩) ∧ W.cell? ⟨g, o2 + 1, none⟩ = some (.slice t.A t.n t.c)) → Below W.heap.size W W' →
        (Below W0.heap.size W0 W' ∧ W'.cell? ⟨g, o1, none⟩ = some (.string ⟨s.rel.toArray⟩) ∧ W'.cell? ⟨g, o1 + 1, none⟩ = some (.slice s.A s.n s.c) ∧ W'.cell? ⟨g, o2, none⟩ = some (.string ⟨t.rel.toArray⟩) ∧ W'.cell? ⟨g, o2 + 1, none⟩ = some (.slice t.A t.n t.c))) := Lib.hid fun W0 s t o1 o2 W W' h hb => by
        obtain ⟨h0, h1, h2, h3, h4⟩ := h
        have key : ∀ {N j : Nat} {v : Value}, W.cell? ⟨N, j, none⟩ = some v → W'.cell? ⟨N, j, none⟩ = some v := fun {N j v} h => (hb.cell (p := ⟨N, j, none⟩) (World.block_lt_of_cell? W _ h)).trans h
        exact ⟨bel_next h0 hb, key h1, key h2, key h3, key h4⟩
      have hS := HKS.out wr es[k].sf es[m].sf _ _ wr wr.drew ⟨Below.refl _ _, x0, x1, y0, y1⟩ ((Below.refl _ _).drew)
      clear x0 x1 y0 y1 hxr
      cases hq : eqE es[k] es[m]
      · rw [hq] at HC
        have HT2 : Hid (compE (es.take (k + 1)) = es.take (k + 1)) := Lib.hid (by rw [HST.out, hq, if_neg (by simp), HT.out, List.take_succ_eq_append_getElem hlt])
        clear hq HST
        have HKS2 := Lib.hid (HKS.out wr es[k].sf es[m].sf (k * 2) (m * 2))
        clear HKS
        generalize es[k].sf = sx at *
        generalize es[m].sf = sy at *
        obtain ⟨xr, xA, xn, xc⟩ := sx
        obtain ⟨yr, yA, yn, yc⟩ := sy
        simp only at *
        go_upto_region 6 with fail
        go_region_held3 (fun W => Below wr.heap.size wr W ∧ W.cell? ⟨g, k * 2, none⟩ = some (.string ⟨xr.toArray⟩) ∧ W.cell? ⟨g, k * 2 + 1, none⟩ = some (.slice xA xn xc) ∧ W.cell? ⟨g, m * 2, none⟩ = some (.string ⟨yr.toArray⟩) ∧ W.cell? ⟨g, m * 2 + 1, none⟩ = some (.slice yA yn yc))
          (assumption)
          (first | (go_at_call 124; go_fit (HC.out _ (And.left (by assumption))); rintro e w1 ⟨rfl, hgn⟩; have hSn := HKS2.out _ _ (by assumption) hgn.bel))
        have HG2 := Lib.hid (gr_next HG.out.drew hgn)
        clear hS hSn hgn
        go_wp2
        go_roundw
        case rel => exact ⟨k + 1, by go_num, by omega, by omega, HT2, HG2⟩
        case measure => simp [intOf]; omega
      · rw [hq] at HC
        have HI0 : Hid (CompI es es k (k + 1)) := Lib.hid ⟨rfl, by rw [HST.out, hq, if_pos rfl, HT.out], by rw [HST.out, hq, if_pos rfl, HT.out, List.length_take]; omega, by omega, fun _ _ => rfl⟩
        clear hq HST
        have HKG := Lib.hid HKS.out
        have HKS2 := Lib.hid (HKS.out wr es[k].sf es[m].sf (k * 2) (m * 2))
        clear HKS
        generalize es[k].sf = sx at *
        generalize es[m].sf = sy at *
        obtain ⟨xr, xA, xn, xc⟩ := sx
        obtain ⟨yr, yA, yn, yc⟩ := sy
        simp only at *
        go_upto_region 6 with fail
        go_region_held3 (fun W => Below wr.heap.size wr W ∧ W.cell? ⟨g, k * 2, none⟩ = some (.string ⟨xr.toArray⟩) ∧ W.cell? ⟨g, k * 2 + 1, none⟩ = some (.slice xA xn xc) ∧ W.cell? ⟨g, m * 2, none⟩ = some (.string ⟨yr.toArray⟩) ∧ W.cell? ⟨g, m * 2 + 1, none⟩ = some (.slice yA yn yc))
          (assumption)
          (first | (go_at_call 124; go_fit (HC.out _ (And.left (by assumption))); rintro e w1 ⟨rfl, hgn⟩; have hSn := HKS2.out _ _ (by assumption) hgn.bel))
        have HG2 := Lib.hid (gr_next HG.out.drew hgn)
        have HO2 := Lib.hid (HO.out.gr HG2.out)
        have HGB := Lib.hid (gb_bel (p := some g) HG2.out.bel)
        have i6 : (k : Int) ≤ (cap : Int) := by omega
        have i7 : ¬ k = cap := by omega
        have i8 : ¬ (k : Int) = (cap : Int) := by omega
        clear hS hSn hgn i3 i4 i5 HKM HOr HC HKS2 HT HG
        go_wp2
        go_loopw [5, 7] (fun v5 v7 wx => ∃ (i p : Nat) (cur : List (Elem w0)), v5 = .int .i64 i ∧ v7 = .int .i64 p ∧ 1 ≤ p ∧ k + p ≤ es.length ∧ Hid (CompI es cur i (k + p)) ∧ Hid (OwnG Elem.enc 37 2 wx w0.heap.size (.slice (some ⟨g, 0, none⟩) es.length cap) cur) ∧ Hid (w.grownBy wx (some g))) (fun _ v7 _ => es.length - (intOf v7).toNat)
        case atStart => exact ⟨k, 1, es, rfl, rfl, Nat.le_refl _, by omega, HI0, HO2, HGB⟩
        case round =>
          clear HI0 HO2 HGB HG2 hgr
          obtain ⟨i, p, cur, rfl, rfl, h1p, hkp, HI, HOc, HGc⟩ := hrel
          have hlen := HI.out.len
          have hij := HI.out.lt
          have hil : i < cur.length := by omega
          have HBc := Lib.hid (below_of_own HB.out HGc.out (fun g' e => by cases e; exact hg.1))
          obtain ⟨z0, z1⟩ := HOc.out.elem hil
          have f0 := HOc.out.frz (i * 2)
          have f1 := HOc.out.frz (i * 2 + 1)
          have hgw := (HOc.out.lt g rfl).2
          rcases Nat.lt_or_ge (k + p) es.length with hlp | hgp
          · obtain ⟨q, hpq⟩ : ∃ q : Nat, q = p - 1 := ⟨_, rfl⟩
            have hql : k + q < es.length := by omega
            obtain ⟨x0, x1⟩ := HOc.out.elem (i := k + p) (by omega)
            obtain ⟨y0, y1⟩ := HOc.out.elem (i := k + q) (by omega)
            rw [HI.out.at (by omega) hlp] at x0 x1
            rw [HI.out.at (by omega) hql] at y0 y1
            rw [Nat.add_mul] at x0 x1 y0 y1
            have j1 : (0 : Int) ≤ (p : Int) := by omega
            have j2 : (p : Int) < ((es.length - k : Nat) : Int) := by omega
            have j3 : (0 : Int) ≤ (q : Int) := by omega
            have j4 : (q : Int) < ((es.length - k : Nat) : Int) := by omega
            have j5 : IntKind.i64.wrap ((p : Int) - 1) = (q : Int) := by rw [IntWalk.i64_in _ (by omega)]; omega
            have j6 : p < es.length - k := by omega
            have hxr : wr.cell? ⟨bx, 0, none⟩ = some (.func (.func 94) #[] #[]) := (World.cell?_of_block (a := ⟨bx, 0, none⟩) (HGc.out.block bx hbw (by intro e; cases e; exact hgx rfl))).trans HX.out
            have HC := Lib.hid fun W (hW : Below wr.heap.size wr W) => mergedC_gr es[k + p] es[k + q] bx W (bel_next HBc.out hW) ((hW.cell (p := ⟨bx, 0, none⟩) (World.block_lt_of_cell? wr _ hxr)).trans hxr)
            unfold Elem.val at HC
            have hS := HKG.out wr es[k + p].sf es[k + q].sf _ _ wr wr.drew ⟨Below.refl _ _, x0, x1, y0, y1⟩ ((Below.refl _ _).drew)
            have HKS2 := Lib.hid (HKG.out wr es[k + p].sf es[k + q].sf (k * 2 + p * 2) (k * 2 + q * 2))
            have HSK := Lib.hid fun h => HI.out.skip2 (m := k + q) (by omega) (by omega) hlp hql h
            have HPU := Lib.hid fun h => HI.out.put2 (m := k + q) (by omega) (by omega) hlp hql h
            have HSE := Lib.hid fun (W : World) (hW : Gr wr W) => (HOc.out.gr hW).setElem Elem.len hlen hil es[k + p] (rfl : Elem.enc es[k + p] = [.string ⟨es[k + p].sf.rel.toArray⟩, .slice es[k + p].sf.A es[k + p].sf.n es[k + p].sf.c])
            clear x0 x1 y0 y1 hxr hpq
            cases hq : eqE es[k + p] es[k + q]
            · rw [hq] at HC
              have HPQ := Lib.hid (HPU.out hq)
              clear hq HSK HPU
              generalize es[k + p] = ex at *
              generalize es[k + q] = ey at *
              generalize cur.set i ex = cur2 at *
              generalize ex.sf = sx at *
              generalize ey.sf = sy at *
              obtain ⟨xr, xA, xn, xc⟩ := sx
              obtain ⟨yr, yA, yn, yc⟩ := sy
              simp only at *
              go_upto_region 11 with fail
              go_region_held3 (fun W => Below wr.heap.size wr W ∧ W.cell? ⟨g, k * 2 + p * 2, none⟩ = some (.string ⟨xr.toArray⟩) ∧ W.cell? ⟨g, k * 2 + p * 2 + 1, none⟩ = some (.slice xA xn xc) ∧ W.cell? ⟨g, k * 2 + q * 2, none⟩ = some (.string ⟨yr.toArray⟩) ∧ W.cell? ⟨g, k * 2 + q * 2 + 1, none⟩ = some (.slice yA yn yc))
                (assumption)
                (first | (go_at_call 124; go_fit (HC.out _ (And.left (by assumption))); rintro e w1 ⟨rfl, hgn⟩; have hSn := HKS2.out _ _ (by assumption) hgn.bel))
              have HGW := Lib.hid (gr_next (Gr.refl wr).drew hgn)
              have HN := Lib.hid (HSE.out _ HGW.out)
              have HNG := Lib.hid (gb_cell (gb_cell (gb_gr HGc.out HGW.out) (i * 2) (.string ⟨xr.toArray⟩)) (i * 2 + 1) (.slice xA xn xc))
              obtain ⟨_, c0, c1, _, _⟩ := hSn
              have z0' := (HGW.out.bel.cell (p := ⟨g, i * 2, none⟩) hgw).trans z0
              have z1' := (HGW.out.bel.cell (p := ⟨g, i * 2 + 1, none⟩) hgw).trans z1
              have f0' := (HOc.out.gr HGW.out).frz (i * 2)
              have f1' := (HOc.out.gr HGW.out).frz (i * 2 + 1)
              have l1 : (0 : Int) ≤ (i : Int) := by omega
              have l2 : (i : Int) < (es.length : Int) := by omega
              have l3 : i < es.length := by omega
              clear hS hgn z0 z1 f0 f1 HSE HC HKS2
              go_wp2
              go_roundw
              case rel => exact ⟨i + 1, p + 1, cur2, by go_num, by go_num, by omega, by omega, HPQ, HN, HNG⟩
              case measure => simp [intOf]; omega
            · rw [hq] at HC
              have HPQ := Lib.hid (HSK.out hq)
              clear hq HSK HPU HSE
              generalize es[k + p] = ex at *
              generalize es[k + q] = ey at *
              generalize ex.sf = sx at *
              generalize ey.sf = sy at *
              obtain ⟨xr, xA, xn, xc⟩ := sx
              obtain ⟨yr, yA, yn, yc⟩ := sy
              simp only at *
              go_upto_region 11 with fail
              go_region_held3 (fun W => Below wr.heap.size wr W ∧ W.cell? ⟨g, k * 2 + p * 2, none⟩ = some (.string ⟨xr.toArray⟩) ∧ W.cell? ⟨g, k * 2 + p * 2 + 1, none⟩ = some (.slice xA xn xc) ∧ W.cell? ⟨g, k * 2 + q * 2, none⟩ = some (.string ⟨yr.toArray⟩) ∧ W.cell? ⟨g, k * 2 + q * 2 + 1, none⟩ = some (.slice yA yn yc))
                (assumption)
                (first | (go_at_call 124; go_fit (HC.out _ (And.left (by assumption))); rintro e w1 ⟨rfl, hgn⟩; have hSn := HKS2.out _ _ (by assumption) hgn.bel))
              have HGW := Lib.hid (gr_next (Gr.refl wr).drew hgn)
              have HN := Lib.hid (HOc.out.gr HGW.out)
              have HNG := Lib.hid (gb_gr HGc.out HGW.out)
              clear hS hSn hgn z0 z1 f0 f1 HC HKS2
              go_wp2
              go_roundw
              case rel => exact ⟨i, p + 1, cur, rfl, by go_num, by omega, by omega, HPQ, HN, HNG⟩
              case measure => simp [intOf]; omega
          · have HKP : Hid (cur.take i = compE es) := Lib.hid (by have := HI.out.kept; rw [List.take_of_length_le (show es.length ≤ k + p by omega)] at this; exact this)
            have HCN : Hid ((compE es).length = i) := Lib.hid (by have := HI.out.cnt; rw [List.take_of_length_le (show es.length ≤ k + p by omega)] at this; exact this)
            have hil2 : i < es.length := by omega
            have hcl := run_clearF wr g (i * 2) (es.length - i) (cap - i) (by omega) (fun j hj => by
              have hlt2 : i * 2 + j < cur.length * 2 := by omega
              have hc := World.ownsRow.cellAt (w := wr) (base := w0.heap.size) (e := 37) (size := 2) (g := g) (cap := cap) (n := cur.length) (xs := gcells Elem.enc cur) (by rw [hlen]; exact (by have := HOc.out; unfold OwnG at this; rw [hlen] at this; exact this)) (i * 2 + j) hlt2
              rw [hc, List.getElem?_eq_getElem (by rw [gcells_len Elem.len]; exact hlt2)]
              rfl) (fun j _ => HOc.out.frz _)
            have HCT := Lib.hid (HOc.out.cut Elem.len hlen (show i ≤ cur.length by omega) (zerosF (es.length - i)))
            have HNG := Lib.hid (gb_cells (zerosF (es.length - i)) (i * 2) wr HGc.out)
            have l1 : (0 : Int) ≤ (i : Int) := by omega
            have l2 : (i : Int) ≤ (es.length : Int) := by omega
            have l3 : i ≤ es.length := by omega
            have l4 : ¬ i = cap := by omega
            have l5 : ¬ (i : Int) = (cap : Int) := by omega
            have l6 : (i : Int) ≤ (cap : Int) := by omega
            clear z0 z1 f0 f1
            have l7 : ¬ p < es.length - k := by omega
            have l8 : ¬ (p : Int) < ((es.length - k : Nat) : Int) := by omega
            go_wp2_with (simp only [hcl])
            go_ret
            unfold CompactEnd
            rw [HCN.out, ← HKP.out]
            exact ⟨rfl, HCT.out, HNG.out⟩
    · have HTE : Hid (compE es = es) := Lib.hid (by have := HT.out; rw [List.take_of_length_le hge] at this; exact this)
      go_wp2
      go_ret
      unfold CompactEnd
      rw [HTE.out]
      exact ⟨rfl, HO.out.gr HG.out, gb_bel HG.out.bel⟩
end Go.Proofs.YtmodjokoggmnaaaGreatDoor
