/-
  Two strictly ascending lists of facts with the same members are one list.
  Conditions: none.
  facts.Remove: the facts that are not the one given, and their set.
  Conditions: the list has at most 1000000 facts, each of at most 1000000 arguments.
  facts.Remove in terms of plain facts.
  Conditions: the list has at most 1000000 facts, each of at most 1000000 arguments.
-/
import Derived.Test.YtmodjokoggmnaaaGreatDoorMa17
import Derived.Test.YtmodjokoggmnaaaGreatDoorMa20
namespace Go.Proofs.YtmodjokoggmnaaaGreatDoor

theorem strict_irrefl {x : GFact} {r : List GFact} (h : StrictF (x :: r)) : x ∉ r := fun hx => by
  have := (List.pairwise_cons.1 h).1 x hx
  rw [ord_fact.self] at this
  omega
theorem strict_ext : ∀ a b : List GFact, StrictF a → StrictF b → (∀ f, f ∈ a ↔ f ∈ b) → a = b
  | [], [], _, _, _ => rfl
  | [], y :: t, _, _, h => absurd ((h y).2 List.mem_cons_self) (by simp)
  | x :: r, [], _, _, h => absurd ((h x).1 List.mem_cons_self) (by simp)
  | x :: r, y :: t, h1, h2, h => by
    have hxy : x = y := by
      rcases List.mem_cons.1 ((h x).1 List.mem_cons_self) with e | hx
      · exact e
      · rcases List.mem_cons.1 ((h y).2 List.mem_cons_self) with e | hy
        · exact e.symm
        · have l1 := (List.pairwise_cons.1 h1).1 y hy
          have l2 := (List.pairwise_cons.1 h2).1 x hx
          have := ord_fact.n x y
          omega
    subst hxy
    have ht : r = t := strict_ext r t (List.pairwise_cons.1 h1).2 (List.pairwise_cons.1 h2).2 fun f => by
      constructor
      · intro hf
        rcases List.mem_cons.1 ((h f).1 (List.mem_cons_of_mem _ hf)) with e | hf'
        · subst e; exact absurd hf (strict_irrefl h1)
        · exact hf'
      · intro hf
        rcases List.mem_cons.1 ((h f).2 (List.mem_cons_of_mem _ hf)) with e | hf'
        · subst e; exact absurd hf (strict_irrefl h2)
        · exact hf'
    rw [ht]
theorem strict_count {a : List GFact} (h : StrictF a) : a.Nodup := h.imp fun {x y} hxy e => by
  subst e
  rw [ord_fact.self] at hxy
  omega
end Go.Proofs.YtmodjokoggmnaaaGreatDoor


namespace Go.Proofs.YtmodjokoggmnaaaGreatDoor

open Go.RowKit Go.Shelf

def keepE {w0 : World} (f : GFact) (es : List (Elem w0)) : List (Elem w0) := es.filter fun x => !isF f x.fact
theorem keepE_step {w0 : World} {f : GFact} {es : List (Elem w0)} {k : Nat} (h : k < es.length) : keepE f (es.take (k + 1)) = if isF f es[k].fact then keepE f (es.take k) else keepE f (es.take k) ++ [es[k]] := by
  unfold keepE
  rw [List.take_succ_eq_append_getElem h, List.filter_append]
  cases hq : isF f es[k].fact
  · simp [hq]
  · simp [hq]
theorem keepE_len {w0 : World} (f : GFact) (es : List (Elem w0)) : (keepE f es).length ≤ es.length := List.length_filter_le _ _
def SelEnd {w0 : World} (f : GFact) (es : List (Elem w0)) (e : Ending) (w' : World) : Prop := ∃ v, e = .returned v ∧ OwnG Elem.enc 37 2 w' w0.heap.size v (keepE f es) ∧ Below w0.heap.size w0 w'
end Go.Proofs.YtmodjokoggmnaaaGreatDoor


namespace Go.Proofs.YtmodjokoggmnaaaGreatDoor

open Go.RowKit Go.Shelf

def RemoveEnd (fa : List GFact) (f : GFact) (w : World) (e : Ending) (w' : World) : Prop :=
  ∃ v, ∃ ss : List SFact, ∃ fs : List GFact, e = .returned (.tuple #[v, .bool (fa.any (isF f))]) ∧ OwnG SFact.cells 37 2 w' w.heap.size v ss ∧ SetV w' v ss fs ∧ StrictF fs ∧ (∀ g, g ∈ fs ↔ g ∈ fa ∧ g ≠ f) ∧ fs.length ≤ fa.length ∧ Below w.heap.size w w'
theorem isF_iff (f g : GFact) : isF f g = true ↔ f = g := by
  unfold isF
  rw [decide_eq_true_eq]
  exact ord_fact.z f g
theorem keepE_any {w0 : World} (f : GFact) (es : List (Elem w0)) : decide ((keepE f es).length < es.length) = (es.map Elem.fact).any (isF f) := by
  induction es with
  | nil => rfl
  | cons x r ih =>
    have hl := keepE_len f r
    have e : keepE f (x :: r) = if isF f x.fact then keepE f r else x :: keepE f r := by
      unfold keepE
      rw [List.filter_cons]
      cases isF f x.fact <;> rfl
    rw [e, List.map_cons, List.any_cons, ← ih]
    cases hq : isF f x.fact
    · simp
    · simp; omega
theorem keepE_mem {w0 : World} (f : GFact) (es : List (Elem w0)) (g : GFact) : g ∈ (keepE f es).map Elem.fact ↔ g ∈ es.map Elem.fact ∧ g ≠ f := by
  rw [List.mem_map, List.mem_map]
  constructor
  · rintro ⟨x, hx, rfl⟩
    have h := List.mem_filter.1 hx
    refine ⟨⟨x, h.1, rfl⟩, fun e => ?_⟩
    have h2 := h.2
    rw [(isF_iff f x.fact).2 e.symm] at h2
    cases h2
  · rintro ⟨⟨x, hx, rfl⟩, hne⟩
    refine ⟨x, List.mem_filter.2 ⟨hx, ?_⟩, rfl⟩
    cases hq : isF f x.fact
    · rfl
    · exact absurd ((isF_iff f x.fact).1 hq).symm hne
end Go.Proofs.YtmodjokoggmnaaaGreatDoor
