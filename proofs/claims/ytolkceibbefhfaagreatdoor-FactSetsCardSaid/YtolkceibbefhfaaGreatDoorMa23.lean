/-
  Two strictly ascending lists of facts with the same members are one list.
  Conditions: none.
  Stores into a row of the call's own: an element anew; the end cleared.
  Conditions: as each theorem says.
-/
import Derived.Test.YtolkceibbefhfaaGreatDoorMa22
import Derived.Laws.IdiomCopy
import Derived.Lib.SliceRun
namespace Go.Proofs.YtolkceibbefhfaaGreatDoor

theorem strict_irrefl {x : GFact} {r : List GFact} (h : StrictF (x :: r)) : x ∉ r := fun hx => by
  have := (List.pairwise_cons.1 h).1 x hx
  rw [ord_fact.self] at this
  omega
theorem strict_ext : ∀ a b : List GFact, StrictF a → StrictF b → (∀ f, f ∈ a ↔ f ∈ b) → a = b
  | [], [], _, _, _ => rfl
  | [], y :: t, _, _, h => absurd ((h y).2 List.mem_cons_self) (by simp)
  | x :: r, [], _, _, h => absurd ((h x).1 List.mem_cons_self) (by simp)
  | x :: r, y :: t, h1, h2, h => by
    have hxy : x = y := by
      rcases List.mem_cons.1 ((h x).1 List.mem_cons_self) with e | hx
      · exact e
      · rcases List.mem_cons.1 ((h y).2 List.mem_cons_self) with e | hy
        · exact e.symm
        · have l1 := (List.pairwise_cons.1 h1).1 y hy
          have l2 := (List.pairwise_cons.1 h2).1 x hx
          have := ord_fact.n x y
          omega
    subst hxy
    have ht : r = t := strict_ext r t (List.pairwise_cons.1 h1).2 (List.pairwise_cons.1 h2).2 fun f => by
      constructor
      · intro hf
        rcases List.mem_cons.1 ((h f).1 (List.mem_cons_of_mem _ hf)) with e | hf'
        · subst e; exact absurd hf (strict_irrefl h1)
        · exact hf'
      · intro hf
        rcases List.mem_cons.1 ((h f).2 (List.mem_cons_of_mem _ hf)) with e | hf'
        · subst e; exact absurd hf (strict_irrefl h2)
        · exact hf'
    rw [ht]
theorem strict_count {a : List GFact} (h : StrictF a) : a.Nodup := h.imp fun {x y} hxy e => by
  subst e
  rw [ord_fact.self] at hxy
  omega
end Go.Proofs.YtolkceibbefhfaaGreatDoor


namespace Go.Proofs.YtolkceibbefhfaaGreatDoor
open Go.RowKit Go.Shelf

section
variable {α : Type} {enc : α → List Value} {T : TypeId} {k : Nat}
theorem set_heap {w : World} {g t : Nat} {v : Value} {cur : Array Value} (hh : w.heap[g]? = some (.cells cur T (0, 0))) : (w.setCell ⟨g, t, none⟩ v).heap[g]? = some (.cells (cur.set! t v) T (0, 0)) := by
  simp [World.setCell, Array.getElem?_modify, hh]
theorem sets_heap {g : Nat} : ∀ (vs : List Value) (o : Nat) (w : World) (cur : Array Value), w.heap[g]? = some (.cells cur T (0, 0)) → ∃ cur', (w.setCells g o vs).heap[g]? = some (.cells cur' T (0, 0)) ∧ cur'.size = cur.size ∧ ∀ t, t < o → cur'[t]? = cur[t]?
  | [], o, w, cur, h => ⟨cur, h, rfl, fun _ _ => rfl⟩
  | v :: r, o, w, cur, h => by
    obtain ⟨cur', h1, h2, h3⟩ := sets_heap r (o + 1) (w.setCell ⟨g, o, none⟩ v) (cur.set! o v) (set_heap h)
    refine ⟨cur', h1, by rw [h2]; simp, fun t ht => ?_⟩
    rw [h3 t (by omega)]
    simp [Array.getElem?_setIfInBounds]
    omega
theorem gcells_set (hk : ∀ x, (enc x).length = 2) (l : List α) (i : Nat) (hi : i < l.length) (x : α) (a b : Value) (he : enc x = [a, b]) : ((gcells enc l).set (i * 2) a).set (i * 2 + 1) b = gcells enc (l.set i x) := by
  induction l generalizing i with
  | nil => simp at hi
  | cons y r ih =>
    obtain ⟨u, v, hy⟩ : ∃ u v, enc y = [u, v] := by
      have := hk y
      match h : enc y, this with
      | [u, v], _ => exact ⟨u, v, rfl⟩
    have e : gcells enc (y :: r) = u :: v :: gcells enc r := by show enc y ++ gcells enc r = _; rw [hy]; rfl
    cases i with
    | zero =>
      have e2 : gcells enc (x :: r) = a :: b :: gcells enc r := by show enc x ++ gcells enc r = _; rw [he]; rfl
      show (((gcells enc (y :: r)).set (0 * 2) a).set (0 * 2 + 1) b) = gcells enc (x :: r)
      rw [e, e2]; rfl
    | succ i =>
      have e2 : gcells enc (y :: r.set i x) = u :: v :: gcells enc (r.set i x) := by show enc y ++ gcells enc _ = _; rw [hy]; rfl
      rw [List.set_cons_succ, e, e2, ← ih i (by simpa using hi), show (i + 1) * 2 = i * 2 + 1 + 1 by omega]
      rfl
theorem take_set (l : List Value) (n t : Nat) (v : Value) : (l.set t v).take n = (l.take n).set t v := by
  refine List.ext_getElem? fun j => ?_
  rw [List.getElem?_set, List.getElem?_take, List.getElem?_take, List.getElem?_set, List.length_take]
  by_cases hj : j < n
  · simp only [hj, if_true]
    by_cases ht : t = j
    · subst ht
      by_cases hl : t < l.length
      · simp [hl]; omega
      · simp [hl]; omega
    · simp [ht]
  · simp only [hj, if_false]
    by_cases ht : t = j
    · subst ht; simp; omega
    · simp [ht]
/-- An element is stored anew. -/
theorem OwnG.setElem (hk : ∀ x, (enc x).length = 2) {w : World} {base g cap n : Nat} {l : List α} (h : OwnG enc T 2 w base (.slice (some ⟨g, 0, none⟩) n cap) l) (hn : l.length = n) {i : Nat} (hi : i < l.length) (x : α) {a b : Value} (he : enc x = [a, b]) :
    OwnG enc T 2 ((w.setCell ⟨g, i * 2, none⟩ a).setCell ⟨g, i * 2 + 1, none⟩ b) base (.slice (some ⟨g, 0, none⟩) n cap) (l.set i x) := by
  refine ⟨gcells_len hk _, ?_⟩
  rcases h.2 with ⟨hh, _⟩ | ⟨g', cap', cur, e, hb, hh, hn', hm, hs, ht⟩
  · cases hh
  · cases e
    refine .inr ⟨g, cap, _, by rw [List.length_set], hb, set_heap (set_heap hh), by rw [List.length_set]; exact hn', hm, by simp [hs], ?_⟩
    rw [List.length_set, ← gcells_set hk l i hi x a b he, ← ht]
    simp [take_set]
/-- The end of the row is turned and left out. -/
theorem OwnG.cut (hk : ∀ x, (enc x).length = 2) {w : World} {base g cap n : Nat} {l : List α} (h : OwnG enc T 2 w base (.slice (some ⟨g, 0, none⟩) n cap) l) (hn : l.length = n) {i : Nat} (hi : i ≤ l.length) (vs : List Value) :
    OwnG enc T 2 (w.setCells g (i * 2) vs) base (.slice (some ⟨g, 0, none⟩) i cap) (l.take i) := by
  have hlt : (l.take i).length = i := by rw [List.length_take]; omega
  refine ⟨gcells_len hk _, ?_⟩
  rcases h.2 with ⟨hh, _⟩ | ⟨g', cap', cur, e, hb, hh, hn', hm, hs, ht⟩
  · cases hh
  · cases e
    obtain ⟨cur', h1, h2, h3⟩ := sets_heap vs (i * 2) w cur hh
    refine .inr ⟨g, cap, cur', by rw [hlt], hb, h1, by omega, hm, by omega, ?_⟩
    rw [hlt]
    have e1 : cur'.toList.take (i * 2) = cur.toList.take (i * 2) := by
      refine List.ext_getElem? fun t => ?_
      rw [List.getElem?_take, List.getElem?_take]
      by_cases hti : t < i * 2
      · simp only [hti, if_true]
        simpa using h3 t hti
      · simp [hti]
    have e2 : gcells enc (l.take i) = (gcells enc l).take (i * 2) := by
      conv => rhs; rw [← List.take_append_drop i l, gcells_append]
      have hg := gcells_len hk (l.take i)
      rw [hlt] at hg
      rw [← hg, List.take_left']
      rfl
    rw [e1, e2, ← ht, List.take_take]
    congr 1
    omega
end
def zerosF (n : Nat) : List Value := (Builtin.zeroCells #[.string ⟨#[]⟩, .slice none 0 0] n).toList
/-- clear of a slice of n facts. -/
theorem run_clearF (w : World) (b o n c : Nat) (hn : 0 < n) (hc : ∀ j, j < n * 2 → (w.cell? ⟨b, o + j, none⟩).isSome = true) (hf : ∀ j, j < n * 2 → w.frozen? ⟨b, o + j, none⟩ = false) (ty : TypeId) :
    (Builtin.clear_ #[22] ty #[.slice (some ⟨b, o, none⟩) n c]).run Tryz.prog w = .ok (.tuple #[]) (w.setCells b o (zerosF n)) := by
  have hl : (Builtin.zeroCells #[.string ⟨#[]⟩, .slice none 0 0] n).toList.length = n * 2 := by simp [Builtin.zeroCells]
  have hst := run_storeCells_cells (P := Tryz.prog) b o (Builtin.zeroCells #[.string ⟨#[]⟩, .slice none 0 0] n).toList 0 w (by rw [hl]; simpa using hc) (by rw [hl]; simpa using hf) (by
    intro v hv
    simp [Builtin.zeroCells] at hv
    obtain ⟨i, _, rfl⟩ := hv
    rcases (by omega : i % 2 = 0 ∨ i % 2 = 1) with h | h <;> rw [h] <;> rfl)
  simp only [Nat.add_zero] at hst
  obtain ⟨m, rfl⟩ : ∃ m, n = m + 1 := ⟨n - 1, by omega⟩
  simp [Builtin.clear_, run_underlying Tryz.underlying22, Value.cells, hst, zerosF]
theorem gb_cell {w w1 : World} {g : Nat} (h : w.grownBy w1 (some g)) (j : Nat) (v : Value) : w.grownBy (w1.setCell ⟨g, j, none⟩ v) (some g) :=
  ⟨h.os, h.tape, h.output, by have := h.size; simp; omega, fun b hb hne => (Below.heap_setCell _ _ _ b (fun e => hne (by rw [e]))).trans (h.block b hb hne)⟩
theorem gb_cells {w : World} {g : Nat} : ∀ (vs : List Value) (o : Nat) (w1 : World), w.grownBy w1 (some g) → w.grownBy (w1.setCells g o vs) (some g)
  | [], _, _, h => h
  | v :: r, o, _, h => gb_cells r (o + 1) _ (gb_cell h o v)
theorem gb_gr {w w1 w2 : World} {q : Option Nat} (h : w.grownBy w1 q) (h2 : Gr w1 w2) : w.grownBy w2 q :=
  ⟨h2.bel.os.trans h.os, h2.bel.tape.trans h.tape, h2.bel.output.trans h.output, Nat.le_trans h.size h2.bel.size, fun b hb hne => (h2.bel.block b (Nat.lt_of_lt_of_le hb h.size)).trans (h.block b hb hne)⟩
end Go.Proofs.YtolkceibbefhfaaGreatDoor
